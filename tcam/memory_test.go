package tcam

import (
	"testing"

	"milepost/api"
)

// spoil writes into a list and into the room behind it.
func spoil(l []api.Slot) {
	l = l[:cap(l)]
	for i := range l {
		l[i] = api.Slot{Bank: 9, Epoch: 9, At: 9, Order: -9, Action: 9, Born: 9, Used: -9, Count: 9}
	}
}

// TestMemoryLists: what is written into an answered list changes nothing in the table, nor in another answer.
func TestMemoryLists(t *testing.T) {
	for what, ask := range map[string]func(x *Table) []api.Slot{
		"the cache":      func(x *Table) []api.Slot { return x.Slots(api.Cache) },
		"the rules":      func(x *Table) []api.Slot { return x.Slots(api.Auth) },
		"the partitions": func(x *Table) []api.Slot { return x.Slots(api.Part) },
		"Rules":          func(x *Table) []api.Slot { return x.Rules(1) },
	} {
		x := epochs(t)
		unchanged(t, x, func() {
			first, second := ask(x), ask(x)
			if len(first) == 0 {
				t.Fatal("nothing to spoil:", what)
			}
			spoil(first)
			wantSlots(t, what, second, ask(x)...)
		})
	}
}

// TestMemoryRoom: the room behind an answer isn't where the table's next slots come to stand.
func TestMemoryRoom(t *testing.T) {
	x := epochs(t)
	cache, auth, rules := x.Slots(api.Cache), x.Slots(api.Auth), x.Rules(1)
	learn(t, x, 3, 1, byFirst(99), 99)
	lay(t, x, api.Slot{Bank: api.Auth, Epoch: 1, At: 99, Action: 99})
	ahead := all(x)
	spoil(cache)
	spoil(auth)
	spoil(rules)
	wantSlots(t, "behind it", all(x), ahead...)
}

// TestMemoryTick: what left is told in memory of its own, and stays so when others come into its place, or behind all others.
func TestMemoryTick(t *testing.T) {
	for many := 2; many <= 40; many++ {
		x := table(t, 99, 0, 0, 5, 0)
		var old []int
		for i := range many {
			learn(t, x, i%2*5, 1, byFirst(byte(i)), i)
			if i%2 == 0 {
				old = append(old, i)
			}
		}
		gone := x.Tick(5)
		wantActions(t, "Tick", gone, old...)
		for i := range 30 {
			learn(t, x, 6, 1, byFirst(byte(100+i)), 100+i)
		}
		wantActions(t, "what left", gone, old...)
		unchanged(t, x, func() { spoil(gone) })
		ahead := x.Slots(api.Cache)
		next := x.Tick(99)
		wantSlots(t, "Tick", next, ahead...)
		for i := range 30 {
			learn(t, x, 100, 1, byFirst(byte(i)), i)
		}
		wantSlots(t, "what left", next, ahead...)
		unchanged(t, x, func() { spoil(next) })
	}
}

// TestMemorySlots: a slot that is told is no part of the table, and one told ahead of a call isn't changed by it.
func TestMemorySlots(t *testing.T) {
	x := epochs(t)
	told := x.Slots(api.Cache)
	peeked, _ := x.Peek(1, api.Header{1})
	x.Look(9, 1, api.Header{1})
	x.Keep(2, 2)
	if peeked.Count != 0 || peeked.Used != 1 || told[1] != peeked {
		t.Error(peeked, told[1])
	}
	wantActions(t, "told ahead", told, 0, 1, 2, 3, 4, 5, 6, 7)
}
