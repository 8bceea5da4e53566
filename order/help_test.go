package order_test

import (
	"math"
	"math/rand"
	"testing"

	"limelight/api"
	"limelight/tree"
)

// sample: 0 has 2 and 1; 1 has 4, 3 (a Text) and 5; 4 has 6; 7 is 2's Shadow, and has 9 and 8; 10 has 11, and no place.
func sample() api.Tree {
	el := func(parent int, kids ...int) api.Node {
		return api.Node{Kind: api.Element, Parent: parent, Kids: kids, Host: -1, Root: -1}
	}
	t := api.Tree{
		{Kind: api.Document, Parent: -1, Kids: []int{2, 1}, Host: -1, Root: -1},
		el(0, 4, 3, 5), el(0), {Kind: api.Text, Parent: 1, Host: -1, Root: -1}, el(1, 6), el(1), el(4),
		{Kind: api.Shadow, Parent: -1, Kids: []int{9, 8}, Host: 2, Root: -1},
		el(7), el(7), el(-1, 11), el(10),
	}
	t[2].Root = 7
	return t
}

// row: each node is the one kid of the one ahead of it, as deep as can be.
func row() api.Tree {
	t := tree.New()
	for n := 1; n < api.MaxNodes; n++ {
		t, _, _ = tree.Make(t, api.Element, api.Box)
		t, _ = tree.Insert(t, tree.Place{Parent: n - 1, Child: n, Before: -1})
	}
	return t
}

// grow does some calls with numbers that are mostly right, so that the trees are of many shapes.
func grow(r *rand.Rand, calls int) api.Tree {
	x := tree.New()
	for range calls {
		n := func() int { return r.Intn(len(x)+1) - r.Intn(2) }
		switch r.Intn(8) {
		case 0, 1:
			x, _, _ = tree.Make(x, api.Element, r.Intn(5))
		case 2:
			x, _, _ = tree.Make(x, api.Text, 0)
		case 3:
			x, _, _ = tree.Attach(x, n())
		case 4:
			x, _ = tree.Remove(x, n())
		default:
			p := tree.Place{Parent: n(), Child: n(), Before: -1}
			if p.Parent >= 0 && p.Parent < len(x) && len(x[p.Parent].Kids) > 0 && r.Intn(2) == 0 {
				p.Before = x[p.Parent].Kids[0]
			}
			x, _ = tree.Insert(x, p)
		}
	}
	return x
}

// outside: numbers that are no nodes of a tree of that length.
func outside(length int) []int {
	return []int{-1, -2, length, length + 1, api.MaxNodes, math.MinInt, math.MaxInt}
}

// spoiled: trees that may not be, of some of which the numbers lead astray, or round and round.
func spoiled(t *testing.T) map[string]api.Tree {
	all := map[string]api.Tree{"nil": nil, "empty": {}, "too long": append(row(), api.Node{Kind: api.Element, Parent: -1, Host: -1, Root: -1})}
	for name, spoil := range map[string]func(x api.Tree){
		"a loop by parents":   func(x api.Tree) { x[10].Parent, x[11].Kids = 11, []int{10} },
		"a loop by a host":    func(x api.Tree) { x[0].Kids, x[2].Parent, x[8].Kids = []int{1}, 8, []int{2} },
		"a parent far away":   func(x api.Tree) { x[6].Parent = math.MaxInt },
		"a kid far away":      func(x api.Tree) { x[6].Kids = []int{math.MaxInt} },
		"a kid below":         func(x api.Tree) { x[6].Kids = []int{-1} },
		"its own kid":         func(x api.Tree) { x[6].Kids = []int{6} },
		"a kid of two":        func(x api.Tree) { x[2].Kids = []int{6} },
		"a root far away":     func(x api.Tree) { x[6].Root = math.MaxInt },
		"a host far away":     func(x api.Tree) { x[7].Host = math.MaxInt },
		"a host of none":      func(x api.Tree) { x[7].Host = -1 },
		"a root of the host":  func(x api.Tree) { x[2].Root = 2 },
		"a value out of size": func(x api.Tree) { x[1].Attrs = []api.Attr{{Name: api.Hidden, Value: 1}} },
	} {
		x := sample()
		spoil(x)
		all[name] = x
	}
	for name, x := range all {
		if tree.Check(x) != api.ErrArg {
			t.Fatalf("%s: a tree that may be", name)
		}
	}
	return all
}
