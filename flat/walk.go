package flat

import (
	"iter"

	"limelight/api"
	"limelight/shade"
	"limelight/slots"
)

// kids is for trees that may be, as all of this file. What it tells is not to be changed.
func kids(t api.Tree, n int) []int {
	x := t[n]
	if x.Kind == api.Shadow {
		return nil
	}
	if x.Root != none {
		return t[x.Root].Kids
	}
	if in := laidInto(t, n); len(in) > 0 {
		return in
	}
	return x.Kids
}

// parent is kids, asked from below: it looks at the one node alone that could show n.
func parent(t api.Tree, n int) int {
	p := t[n].Parent
	switch {
	case p == none:
		return none
	case t[p].Kind == api.Shadow:
		return shade.Host(t, n)
	case t[p].Root != none:
		return slotThatShows(t, n)
	case len(laidInto(t, p)) > 0:
		return none
	}
	return p
}

// slotThatShows is none, too, where the slot has a shadow of its own, which hides all that is laid into it.
func slotThatShows(t api.Tree, n int) int {
	slot := slots.Of(t, n)
	if slot == none || t[slot].Root != none {
		return none
	}
	return slot
}

// laidInto spares those the question that by their tag can be no slots.
func laidInto(t api.Tree, n int) []int {
	if t[n].Tag != api.Slot {
		return nil
	}
	return slots.Assigned(t, n)
}

// up ends: a slot that shows a kid of a host lies below that host.
func up(t api.Tree, n int) iter.Seq[int] {
	return func(yield func(int) bool) {
		for at := n; at != none; at = parent(t, at) {
			if !yield(at) {
				return
			}
		}
	}
}

func list(all []int, t api.Tree, n int) []int {
	all = append(all, n)
	for _, kid := range kids(t, n) {
		all = list(all, t, kid)
	}
	return all
}
