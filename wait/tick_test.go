package wait

import (
	"math"
	"slices"
	"testing"

	"milepost/api"
)

// five is five who wait, Due from 11 on one by one.
func five(t *testing.T, tries int) *Wait {
	t.Helper()
	w := fresh(t, 5, tries, 10)
	for seq := 1; seq <= 5; seq++ {
		add(t, w, seq, seq)
	}
	return w
}

// TestP192Answer: whoever of them is answered, the others wait on as they were.
func TestP192Answer(t *testing.T) {
	for seq := 1; seq <= 5; seq++ {
		w := five(t, 1)
		wantAnswer(t, w, one(seq, 1, seq+10))
		var left []api.Asked
		for other := 1; other <= 5; other++ {
			if other != seq {
				left = append(left, one(other, 1, other+10))
			}
		}
		wantList(t, w, left...)
		wantNobody(t, w, seq)
		for _, x := range left {
			wantAnswer(t, w, x)
		}
		wantList(t, w)
	}
}

// TestP192AnswerAnyOrder: all are answered, in an order that isn't theirs.
func TestP192AnswerAnyOrder(t *testing.T) {
	w := five(t, 1)
	for i, seq := range []int{3, 5, 1, 4, 2} {
		wantAnswer(t, w, one(seq, 1, seq+10))
		wantNobody(t, w, seq)
		if got := len(w.List()); got != 4-i {
			t.Error("behind", seq, "wait", got)
		}
	}
}

// TestP192AnswerNobody: 0, below 0, and what was never told.
func TestP192AnswerNobody(t *testing.T) {
	w := five(t, 1)
	wantNobody(t, w, math.MinInt, math.MinInt+1, -5, -1, 0, 6, 7, 100, 500, 1<<32+1, math.MaxInt-1, math.MaxInt)
	wantFull(t, w, 5)
}

// TestP192AnswerGone: who was answered, given up or cleared isn't answered any more, nor when others have come.
func TestP192AnswerGone(t *testing.T) {
	w := five(t, 0)
	wantAnswer(t, w, one(4, 1, 14))
	wantTick(t, w, 12, nil, list(one(1, 1, 11), one(2, 1, 12)))
	wantNobody(t, w, 1, 2, 4)
	wantList(t, w, one(3, 1, 13), one(5, 1, 15))
	w.Clear()
	wantNobody(t, w, 1, 2, 3, 4, 5)
	add(t, w, 6, 0)
	wantNobody(t, w, 1, 2, 3, 4, 5, 7)
	wantAnswer(t, w, one(6, 1, 10))
	wantNobody(t, w, 6)
}

// TestP192AnswerAgain: one that was asked for again is answered as it is then.
func TestP192AnswerAgain(t *testing.T) {
	w := five(t, 3)
	wantTick(t, w, 11, list(one(1, 2, 21)), nil)
	wantTick(t, w, 25, list(one(1, 3, 35), one(2, 2, 35), one(3, 2, 35), one(4, 2, 35), one(5, 2, 35)), nil)
	wantAnswer(t, w, one(1, 3, 35))
	wantAnswer(t, w, one(3, 2, 35))
	wantList(t, w, one(2, 2, 35), one(4, 2, 35), one(5, 2, 35))
}

// TestP193Due: nobody ahead of their Due, each just at it.
func TestP193Due(t *testing.T) {
	w := five(t, 1)
	for now := range 11 {
		unchanged(t, w, func() { wantTick(t, w, now, nil, nil) })
	}
	for seq := 1; seq <= 5; seq++ {
		wantTick(t, w, seq+10, list(one(seq, 2, seq+20)), nil)
		unchanged(t, w, func() { wantTick(t, w, seq+10, nil, nil) })
	}
	unchanged(t, w, func() { wantTick(t, w, 20, nil, nil) })
	for seq := 1; seq <= 5; seq++ {
		wantTick(t, w, seq+20, nil, list(one(seq, 2, seq+20)))
		unchanged(t, w, func() { wantTick(t, w, seq+20, nil, nil) })
	}
	wantList(t, w)
}

// TestP193Late: the next Due is reckoned from the Tick, not from the Due ahead.
func TestP193Late(t *testing.T) {
	w := five(t, 2)
	wantTick(t, w, 13, list(one(1, 2, 23), one(2, 2, 23), one(3, 2, 23)), nil)
	wantList(t, w, one(1, 2, 23), one(2, 2, 23), one(3, 2, 23), one(4, 1, 14), one(5, 1, 15))
	wantTick(t, w, 1000, list(one(1, 3, 1010), one(2, 3, 1010), one(3, 3, 1010), one(4, 2, 1010), one(5, 2, 1010)), nil)
	wantTick(t, w, 1009, nil, nil)
	wantTick(t, w, 1010, list(one(4, 3, 1020), one(5, 3, 1020)), list(one(1, 3, 1010), one(2, 3, 1010), one(3, 3, 1010)))
	wantList(t, w, one(4, 3, 1020), one(5, 3, 1020))
	wantTick(t, w, 1020, nil, list(one(4, 3, 1020), one(5, 3, 1020)))
}

// TestP193Tries: each number of tries, at each of them.
func TestP193Tries(t *testing.T) {
	for tries := 0; tries <= 8; tries++ {
		w := fresh(t, 1, tries, 4)
		add(t, w, 1, 100)
		now := 104
		for sent := 1; sent <= tries; sent++ {
			unchanged(t, w, func() { wantTick(t, w, now-1, nil, nil) })
			wantTick(t, w, now, list(one(1, sent+1, now+4)), nil)
			wantList(t, w, one(1, sent+1, now+4))
			now += 4
		}
		unchanged(t, w, func() { wantTick(t, w, now-1, nil, nil) })
		wantTick(t, w, now, nil, list(one(1, tries+1, now)))
		wantTick(t, w, now, nil, nil)
		wantList(t, w)
	}
}

// TestP193Mixed: at one Tick some are asked for again, some are given up, some aren't due, in turns.
func TestP193Mixed(t *testing.T) {
	w := fresh(t, 9, 1, 10)
	for seq := 1; seq <= 9; seq++ {
		// By threes: due at 10 and sent twice at 20, due at 15, due at 50.
		add(t, w, seq, []int{40, 0, 5}[seq%3])
	}
	wantTick(t, w, 10, list(one(1, 2, 20), one(4, 2, 20), one(7, 2, 20)), nil)
	wantTick(t, w, 20, list(one(2, 2, 30), one(5, 2, 30), one(8, 2, 30)), list(one(1, 2, 20), one(4, 2, 20), one(7, 2, 20)))
	wantList(t, w, one(2, 2, 30), one(3, 1, 50), one(5, 2, 30), one(6, 1, 50), one(8, 2, 30), one(9, 1, 50))
	add(t, w, 10, 11)
	wantAnswer(t, w, one(5, 2, 30))
	wantTick(t, w, 30, list(one(10, 2, 40)), list(one(2, 2, 30), one(8, 2, 30)))
	wantList(t, w, one(3, 1, 50), one(6, 1, 50), one(9, 1, 50), one(10, 2, 40))
	wantTick(t, w, 50, list(one(3, 2, 60), one(6, 2, 60), one(9, 2, 60)), list(one(10, 2, 40)))
	wantTick(t, w, 60, nil, list(one(3, 2, 60), one(6, 2, 60), one(9, 2, 60)))
	wantList(t, w)
}

// TestP193BySeq: both lists are by Seq, where the Due falls as Seq rises.
func TestP193BySeq(t *testing.T) {
	w := fresh(t, 6, 1, 10)
	for seq := 1; seq <= 6; seq++ {
		add(t, w, seq, 60-10*seq)
	}
	wantTick(t, w, 30, list(one(4, 2, 40), one(5, 2, 40), one(6, 2, 40)), nil)
	wantList(t, w, one(1, 1, 60), one(2, 1, 50), one(3, 1, 40), one(4, 2, 40), one(5, 2, 40), one(6, 2, 40))
	wantTick(t, w, 60, list(one(1, 2, 70), one(2, 2, 70), one(3, 2, 70)), list(one(4, 2, 40), one(5, 2, 40), one(6, 2, 40)))
	wantTick(t, w, 70, nil, list(one(1, 2, 70), one(2, 2, 70), one(3, 2, 70)))
}

// TestP193Backwards: times needn't rise; each Tick is reckoned by its own.
func TestP193Backwards(t *testing.T) {
	w := fresh(t, 2, 2, 10)
	add(t, w, 1, 0)
	wantTick(t, w, 90, list(one(1, 2, 100)), nil)
	for _, now := range []int{80, 50, 10, 0, -1, math.MinInt} {
		unchanged(t, w, func() { wantTick(t, w, now, nil, nil) })
	}
	add(t, w, 2, 3)
	wantTick(t, w, 13, list(one(2, 2, 23)), nil)
	wantTick(t, w, 12, nil, nil)
	wantTick(t, w, 40, list(one(2, 3, 50)), nil)
	wantTick(t, w, 100, list(one(1, 3, 110)), list(one(2, 3, 50)))
	wantTick(t, w, 99, nil, nil)
	wantList(t, w, one(1, 3, 110))
}

// TestP193Bounds: a now below 0 counts as 0, one above MaxTicks as that.
func TestP193Bounds(t *testing.T) {
	const most = api.MaxTicks
	for _, now := range []int{math.MinInt, -most, -1001, -1000, -1, 0} {
		w := fresh(t, 2, 1, 1)
		add(t, w, 1, math.MinInt)
		add(t, w, 2, now)
		unchanged(t, w, func() { wantTick(t, w, now, nil, nil) })
		wantTick(t, w, 1, list(one(1, 2, 2), one(2, 2, 2)), nil)
	}
	for _, now := range []int{most, most + 1, most + 1000, most + 5000, math.MaxInt - 1, math.MaxInt} {
		w := fresh(t, 4, 1, 10)
		add(t, w, 1, 0)
		add(t, w, 2, most-10)
		add(t, w, 3, most-9)
		add(t, w, 4, now)
		wantTick(t, w, most-1, list(one(1, 2, most+9)), nil)
		wantTick(t, w, now, list(one(2, 2, most+10)), nil)
		// These are due above MaxTicks: no Tick counts as so late.
		unchanged(t, w, func() { wantTick(t, w, now, nil, nil) })
		wantList(t, w, one(1, 2, most+9), one(2, 2, most+10), one(3, 1, most+1), one(4, 1, most+10))
	}
}

// TestP193Clear: all that wait, by Seq, as they are; then nobody.
func TestP193Clear(t *testing.T) {
	w := five(t, 1)
	wantAnswer(t, w, one(2, 1, 12))
	wantTick(t, w, 11, list(one(1, 2, 21)), nil)
	if got := w.Clear(); !slices.Equal(got, list(one(1, 2, 21), one(3, 1, 13), one(4, 1, 14), one(5, 1, 15))) {
		t.Error("Clear:", got)
	}
	wantList(t, w)
	if got := w.Clear(); len(got) != 0 {
		t.Error("Clear of nobody:", got)
	}
	wantTick(t, w, api.MaxTicks, nil, nil)
	wantNobody(t, w, 1, 2, 3, 4, 5)
	add(t, w, 6, 7)
	if got := w.Clear(); !slices.Equal(got, list(one(6, 1, 17))) {
		t.Error("Clear:", got)
	}
}

// TestP193List: those that wait, by Seq; however often it is asked, nothing changes.
func TestP193List(t *testing.T) {
	w := five(t, 0)
	wantAnswer(t, w, one(1, 1, 11))
	wantAnswer(t, w, one(4, 1, 14))
	for range 3 {
		wantList(t, w, one(2, 1, 12), one(3, 1, 13), one(5, 1, 15))
	}
	wantTick(t, w, 13, nil, list(one(2, 1, 12), one(3, 1, 13)))
	wantList(t, w, one(5, 1, 15))
	wantAnswer(t, w, one(5, 1, 15))
	wantList(t, w)
}

// TestP194: with a Tick at each time each one is asked for tries times again, and given up at the last, (tries + 1) times time ticks behind it came.
func TestP194(t *testing.T) {
	for _, time := range []int{1, 2, 3, 7, 1000} {
		for tries := 0; tries <= 8; tries++ {
			w := fresh(t, 64, tries, time)
			const many = 40
			again, over := map[int]int{}, map[int]int{}
			for now := 0; now <= many+(tries+1)*time; now++ {
				a, b := w.Tick(now)
				for _, x := range a {
					again[x.Seq]++
					came := x.Seq - 1
					if x != one(x.Seq, again[x.Seq]+1, now+time) || now != came+again[x.Seq]*time {
						t.Fatal("again at", now, x)
					}
				}
				for _, x := range b {
					over[x.Seq]++
					came := x.Seq - 1
					if x != one(x.Seq, tries+1, now) || now != came+(tries+1)*time {
						t.Fatal("given up at", now, x)
					}
				}
				if now < many {
					add(t, w, now+1, now)
				}
			}
			for seq := 1; seq <= many; seq++ {
				if again[seq] != tries || over[seq] != 1 {
					t.Error("tries", tries, "time", time, "seq", seq, again[seq], over[seq])
				}
			}
			wantList(t, w)
		}
	}
}
