package ctl

import (
	"slices"

	"milepost/api"
	"milepost/plan"
)

// epoch is what is shown of one, and what is behind that.
type epoch struct {
	api.Epoch
	table  []api.Rule
	items  [][]api.Slot // the switch 1's stand first
	turned bool
}

// prepare makes the next epoch; the one that was prepared, if there was one, is given up.
func (c *Ctl) prepare(table []api.Rule, leaves []api.Leaf, index int) {
	c.newest++
	x := &epoch{Epoch: api.Epoch{Number: c.newest, Index: index, Leaves: leaves}, table: table}
	for i := range c.setup.Switches {
		x.items = append(x.items, plan.Items(leaves, i+1))
	}
	c.prepared = x
	c.note(x.noted(api.NotePlan))
}

// noted is a note of a kind about an epoch.
func (x *epoch) noted(kind int) api.Note {
	return api.Note{Kind: kind, Epoch: x.Number, Index: x.Index}
}

// shown is what others may see of an epoch, if it is there, as new memory.
func (x *epoch) shown() (api.Epoch, bool) {
	if x == nil {
		return api.Epoch{}, false
	}
	out := x.Epoch
	out.Leaves = slices.Clone(x.Leaves)
	for i := range out.Leaves {
		out.Leaves[i].Rules = slices.Clone(out.Leaves[i].Rules)
	}
	return out, true
}

// weak: has a leaf a holder that isn't live, or might it have a second one?
func (x *epoch) weak(live []int) bool {
	return slices.ContainsFunc(x.Leaves, func(l api.Leaf) bool {
		if l.Two == 0 && len(live) >= 2 {
			return true
		}
		return !slices.Contains(live, l.One) || l.Two != 0 && !slices.Contains(live, l.Two)
	})
}

// orphaned: has a leaf no holder that is live?
func (x *epoch) orphaned(live []int) bool {
	return slices.ContainsFunc(x.Leaves, func(l api.Leaf) bool {
		return !slices.Contains(live, l.One) && !slices.Contains(live, l.Two)
	})
}

// alike: are leaves of the same cubes, and of the same authorities?
func (x *epoch) alike(leaves []api.Leaf) bool {
	return slices.EqualFunc(x.Leaves, leaves, func(a api.Leaf, b api.Leaf) bool {
		return a.Cube == b.Cube && a.One == b.One && a.Two == b.Two
	})
}
