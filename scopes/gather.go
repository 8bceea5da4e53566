package scopes

import (
	"slices"

	"limelight/api"
	"limelight/area"
	"limelight/flat"
)

// gatherer fills the table of one scope.
type gatherer struct {
	view  api.View
	table table
	areas []int
	asked bool
}

// gather is for an owner in the flat tree.
func gather(v api.View, owner int) table {
	g := gatherer{view: v, table: table{compare: byIndex}}
	g.below(owner)
	return g.table
}

// below goes down as far as other scopes begin: so whom it comes to has no other owner.
func (g *gatherer) below(n int) {
	for _, kid := range flat.Kids(g.view.Tree, n) {
		own := owns(g.view, kid)
		g.add(kid, own)
		if !own {
			g.below(kid)
		}
	}
}

func (g *gatherer) add(n int, own bool) {
	i := index(g.view.Tree, n)
	if i >= 0 && place(g.view, n) == none && (own || g.reached(n)) {
		g.table.rows = append(g.table.rows, row{node: n, index: i})
	}
}

// reached is area.Tabs, for those whose number is not below 0. It asks of the whole view no more than once, and not at all for those who can't be focused wherever they stand.
func (g *gatherer) reached(n int) bool {
	if _, is := area.Index(g.view.Tree, n); !is {
		return false
	}
	if !g.asked {
		g.areas, g.asked = area.All(g.view), true
	}
	return slices.Contains(g.areas, n)
}
