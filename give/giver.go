package give

import (
	"iter"
	"slices"

	"limelight/api"
	"limelight/area"
	"limelight/attr"
	"limelight/order"
)

// giver keeps its answers: a host is come to by its Autofocus, and again in its turn, so that with hosts in hosts each one would double the way.
type giver struct {
	view     api.View
	areas    []int
	counted  bool
	handedOn map[int]int
}

// newGiver is for views that may be.
func newGiver(v api.View) *giver {
	return &giver{view: v, handedOn: map[int]int{}}
}

func (g *giver) area(n int) int {
	switch {
	case g.can(n):
		return n
	case area.Delegates(g.view.Tree, n):
		return g.delegate(n)
	}
	return none
}

func (g *giver) first(n int) int {
	for x := range g.marked(n) {
		if to := g.area(x); to != none {
			return to
		}
	}
	return none
}

func (g *giver) delegate(n int) int {
	if to, is := g.handedOn[n]; is {
		return to
	}
	to := g.look(n)
	g.handedOn[n] = to
	return to
}

// look ends: whom it asks to hand on is below n, or in its shadow.
func (g *giver) look(n int) int {
	where := n
	if root := g.view.Tree[n].Root; root != none {
		if !area.Delegates(g.view.Tree, n) {
			return none
		}
		where = root
	}
	if to := g.first(where); to != none {
		return to
	}
	for x := range g.below(where) {
		if to := g.taker(n, x); to != none {
			return to
		}
	}
	return none
}

// taker is who takes the focus where n hands it on to x.
func (g *giver) taker(n int, x int) int {
	switch {
	case g.can(x) && (g.tabs(x) || !isDialog(g.view.Tree[n])):
		return x
	case area.Delegates(g.view.Tree, x):
		return g.delegate(x)
	}
	return none
}

// can asks of the whole view no more than once, and not at all for those who have no Index.
func (g *giver) can(n int) bool {
	if _, is := area.Index(g.view.Tree, n); !is {
		return false
	}
	if !g.counted {
		g.areas, g.counted = area.All(g.view), true
	}
	return slices.Contains(g.areas, n)
}

// tabs is area.Tabs, for those who can be focused.
func (g *giver) tabs(n int) bool {
	i, _ := area.Index(g.view.Tree, n)
	return i >= 0
}

// marked tells n, too, if it has Autofocus itself.
func (g *giver) marked(n int) iter.Seq[int] {
	return func(yield func(int) bool) {
		for _, x := range order.List(g.view.Tree, n) {
			if has(g.view.Tree, x, api.Autofocus) && !yield(x) {
				return
			}
		}
	}
}

// below leaves n itself out.
func (g *giver) below(n int) iter.Seq[int] {
	return func(yield func(int) bool) {
		for _, x := range order.List(g.view.Tree, n) {
			if x != n && !yield(x) {
				return
			}
		}
	}
}

// has spares those the question that have no attributes at all: each question looks at the whole tree.
func has(t api.Tree, n int, name int) bool {
	return len(t[n].Attrs) > 0 && attr.Has(t, n, name)
}

func isDialog(x api.Node) bool {
	return x.Kind == api.Element && x.Tag == api.Dialog
}
