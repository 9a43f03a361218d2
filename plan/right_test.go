package plan

import (
	"math"
	"testing"

	"milepost/api"
)

// middle is a setup of which no number is at an end of its bounds.
func middle() api.Setup {
	return api.Setup{Switches: 4, Authorities: 3, Cache: 100, Auth: 100, Part: 20, Idle: 30, Hard: 40, Grain: 5, Bias: 0.5, Window: 10, Queue: 100, Wait: 10, Tries: 3, Time: 10, Beat: 5, Lease: 50, Lost: 60}
}

// field is one of a setup: how it is set, and its bounds in the middle one.
type field struct {
	name        string
	of          func(s *api.Setup) *int
	least, most int
}

func fields() []field {
	return []field{
		// Authorities are 3 there, so fewer switches can't be: the least number is asked by itself below.
		{"Switches", func(s *api.Setup) *int { return &s.Switches }, 3, 6},
		{"Authorities", func(s *api.Setup) *int { return &s.Authorities }, 2, 4},
		{"Cache", func(s *api.Setup) *int { return &s.Cache }, 0, 2048},
		{"Auth", func(s *api.Setup) *int { return &s.Auth }, 2, 2048},
		{"Part", func(s *api.Setup) *int { return &s.Part }, 2, 64},
		{"Idle", func(s *api.Setup) *int { return &s.Idle }, 0, 1000},
		{"Hard", func(s *api.Setup) *int { return &s.Hard }, 0, 1000},
		{"Grain", func(s *api.Setup) *int { return &s.Grain }, 1, 512},
		{"Window", func(s *api.Setup) *int { return &s.Window }, 1, 64},
		{"Queue", func(s *api.Setup) *int { return &s.Queue }, 38, 512},
		// 100 less 10 and 8 are two times 41.
		{"Wait", func(s *api.Setup) *int { return &s.Wait }, 1, 41},
		{"Tries", func(s *api.Setup) *int { return &s.Tries }, 1, 8},
		{"Time", func(s *api.Setup) *int { return &s.Time }, 2, 100},
		// Three times 16 are not above 50 and 60.
		{"Beat", func(s *api.Setup) *int { return &s.Beat }, 1, 16},
		{"Lease", func(s *api.Setup) *int { return &s.Lease }, 15, 200},
		{"Lost", func(s *api.Setup) *int { return &s.Lost }, 15, 200},
	}
}

// asked holds Right of a setup, and Make with it, against what must be.
func asked(t *testing.T, name string, s api.Setup, want bool) {
	t.Helper()
	if Right(s) != want {
		t.Errorf("%s: Right(%+v) is %v", name, s, !want)
	}
	l, e := Make(nil, s, []int{1}, nil)
	if want && (e != api.OK || len(l) != 1) || !want && (e != api.ErrArg || len(l) != 0) {
		t.Errorf("%s: Make with %+v: %s", name, s, show(l, e))
	}
	if rightOf(s) != want {
		t.Errorf("%s: the reckoning of %+v is %v", name, s, !want)
	}
}

func TestP141Ordinary(t *testing.T) {
	asked(t, "middle", middle(), true)
	asked(t, "small", small(), true)
	asked(t, "nothing", api.Setup{}, false)
}

// Each field at its least and its greatest number, one below and one above, and far off.
func TestP141Bounds(t *testing.T) {
	for _, f := range fields() {
		for _, c := range []struct {
			n    int
			want bool
		}{
			{f.least, true}, {f.least + 1, true}, {f.most, true}, {f.most - 1, true},
			{f.least - 1, false}, {f.most + 1, false}, {-1, false}, {-f.least - 1, false}, {1 << 20, false}, {-1 << 20, false},
			{1<<32 + f.least, false}, {math.MaxInt, false}, {math.MinInt, false}, {math.MaxInt/2 + 1, false}, {math.MinInt/2 + f.most, false}, {math.MaxInt/3 + 2, false},
		} {
			s := middle()
			*f.of(&s) = c.n
			asked(t, f.name, s, c.want)
		}
	}
}

// All numbers at their least, and at their greatest, at once.
func TestP141Ends(t *testing.T) {
	least := api.Setup{Switches: 2, Authorities: 2, Auth: 2, Part: 2, Grain: 1, Window: 1, Queue: 11, Wait: 1, Tries: 1, Time: 2, Beat: 1, Lease: 3, Lost: 3}
	asked(t, "least", least, true)
	most := api.Setup{Switches: 6, Authorities: 6, Cache: 2048, Auth: 2048, Part: 64, Idle: 1000, Hard: 1000, Grain: 512, Window: 64, Queue: 512, Wait: 64, Tries: 8, Time: 100, Beat: 20, Lease: 200, Lost: 200}
	asked(t, "greatest", most, true)
	for _, f := range fields() {
		s := least
		*f.of(&s)--
		asked(t, f.name+" below the least", s, false)
		s = most
		*f.of(&s)++
		asked(t, f.name+" above the greatest", s, false)
	}
}

func TestP141Authorities(t *testing.T) {
	for switches := -1; switches < 9; switches++ {
		for authorities := -1; authorities < 9; authorities++ {
			s := middle()
			s.Switches, s.Authorities = switches, authorities
			asked(t, "authorities", s, switches >= 2 && switches <= 6 && authorities >= 2 && authorities <= switches)
		}
	}
}

func TestP141Beat(t *testing.T) {
	for beat := 1; beat <= 20; beat++ {
		for _, f := range fields() {
			if f.name != "Lease" && f.name != "Lost" {
				continue
			}
			for _, c := range []struct {
				n    int
				want bool
			}{{3*beat - 1, false}, {3 * beat, true}, {3*beat + 1, true}, {200, true}, {201, false}, {beat, false}} {
				s := middle()
				s.Beat, s.Lease, s.Lost = beat, 200, 200
				*f.of(&s) = c.n
				asked(t, f.name, s, c.want)
			}
		}
	}
	s := middle()
	s.Beat, s.Lease, s.Lost = 21, 200, 200
	asked(t, "Beat above", s, false)
	// Three times as much would go round to a small number.
	for _, beat := range []int{math.MaxInt/3 + 1, math.MinInt / 3 * 2, math.MinInt} {
		s.Beat = beat
		asked(t, "Beat far off", s, false)
	}
}

func TestP141Queue(t *testing.T) {
	for _, wait := range []int{1, 2, 31, 63, 64} {
		for _, window := range []int{1, 2, 32, 63, 64} {
			least := 2*wait + window + 8
			for _, c := range []struct {
				n    int
				want bool
			}{{least - 1, false}, {least, true}, {least + 1, true}, {512, true}, {513, false}, {wait + window + 8, false}, {2 * wait, false}} {
				s := middle()
				s.Wait, s.Window, s.Queue = wait, window, c.n
				asked(t, "Queue", s, c.want)
			}
		}
	}
	// However small the least number goes round to, these can't be.
	for _, far := range []int{math.MaxInt/2 + 1, math.MaxInt, math.MinInt} {
		s := middle()
		s.Wait = far
		asked(t, "Wait far off", s, false)
		s = middle()
		s.Window = far
		asked(t, "Window far off", s, false)
	}
	// A queue with room for all, so that these are asked by themselves.
	for _, c := range []struct {
		wait, window int
		want         bool
	}{{64, 64, true}, {65, 64, false}, {64, 65, false}, {0, 64, false}, {64, 0, false}, {-64, 64, false}} {
		s := middle()
		s.Queue, s.Wait, s.Window = 512, c.wait, c.window
		asked(t, "Wait and Window", s, c.want)
	}
}

// Bias is any number: also one that is none, infinite or below 0.
func TestP141Bias(t *testing.T) {
	for _, x := range []float64{nan, -nan, inf, -inf, 0, math.Copysign(0, -1), -1, 1, -1e-300, 5e-324, math.MaxFloat64, -math.MaxFloat64} {
		s := middle()
		s.Bias = x
		asked(t, "Bias", s, true)
		s.Tries = 0
		asked(t, "Bias", s, false)
	}
}

// All numbers near an end of their bounds at once, by the reckoning.
func TestP141Reckoned(t *testing.T) {
	x := noise(141)
	count := map[bool]int{}
	for range 50000 {
		s := middle()
		for range 1 + x.below(4) {
			f := fields()[x.below(len(fields()))]
			*f.of(&s) = []int{f.least, f.most}[x.below(2)] + x.below(3) - 1
		}
		if Right(s) != rightOf(s) {
			t.Fatalf("Right(%+v) is %v", s, Right(s))
		}
		count[Right(s)]++
	}
	if count[true] < 5000 || count[false] < 5000 {
		t.Error("too few of a kind:", count)
	}
}
