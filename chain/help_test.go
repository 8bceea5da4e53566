package chain_test

import (
	"math"
	"math/rand"
	"testing"

	"limelight/api"
	"limelight/tree"
)

// sample: 0 has 1 and 2; 1 has 3 (a Text) and 4; 5 is 1's Shadow, and has 6 and 7; 8 is 6's, and has 9; 10 is 2's, and has none; 11 has 12, no place, and the Shadow 13, which has 14.
func sample() api.Tree {
	el := func(parent int, root int, kids ...int) api.Node {
		return api.Node{Kind: api.Element, Parent: parent, Kids: kids, Host: -1, Root: root}
	}
	shadow := func(host int, kids ...int) api.Node {
		return api.Node{Kind: api.Shadow, Parent: -1, Kids: kids, Host: host, Root: -1}
	}
	return api.Tree{
		{Kind: api.Document, Parent: -1, Kids: []int{1, 2}, Host: -1, Root: -1},
		el(0, 5, 3, 4), el(0, 10), {Kind: api.Text, Parent: 1, Host: -1, Root: -1}, el(1, -1),
		shadow(1, 6, 7), el(5, 8), el(5, -1), shadow(6, 9), el(8, -1), shadow(2),
		el(-1, 13, 12), el(11, -1), shadow(11, 14), el(13, -1),
	}
}

// nest: each shadow has the host of the next one, as deep as can be: hosts are the odd numbers, and 63 is the last.
func nest() api.Tree {
	t := tree.New()
	at := 0
	for len(t) < api.MaxNodes {
		host := len(t)
		t, _, _ = tree.Make(t, api.Element, api.Box)
		t, _ = tree.Insert(t, tree.Place{Parent: at, Child: host, Before: -1})
		t, at, _ = tree.Attach(t, host)
	}
	return t
}

// grow does some calls with numbers that are mostly right, so that the trees are of many shapes.
func grow(r *rand.Rand, calls int) api.Tree {
	x := tree.New()
	for range calls {
		n := func() int { return r.Intn(len(x)+1) - r.Intn(2) }
		switch r.Intn(8) {
		case 0, 1:
			x, _, _ = tree.Make(x, api.Element, r.Intn(5))
		case 2:
			x, _, _ = tree.Make(x, api.Text, 0)
		case 3:
			x, _, _ = tree.Attach(x, n())
		case 4:
			x, _ = tree.Remove(x, n())
		default:
			p := tree.Place{Parent: n(), Child: n(), Before: -1}
			if p.Parent >= 0 && p.Parent < len(x) && len(x[p.Parent].Kids) > 0 && r.Intn(2) == 0 {
				p.Before = x[p.Parent].Kids[0]
			}
			x, _ = tree.Insert(x, p)
		}
	}
	return x
}

// outside: numbers that are no nodes of a tree of that length.
func outside(length int) []int {
	return []int{-1, -2, length, length + 1, api.MaxNodes, math.MinInt, math.MaxInt}
}

// spoiled: trees that may not be, of some of which the numbers lead astray, or round and round.
func spoiled(t *testing.T) map[string]api.Tree {
	all := map[string]api.Tree{"nil": nil, "empty": {}, "too long": append(nest(), api.Node{Kind: api.Element, Parent: -1, Host: -1, Root: -1})}
	for name, spoil := range map[string]func(x api.Tree){
		"a loop by parents":   func(x api.Tree) { x[11].Parent, x[12].Kids = 12, []int{11} },
		"a loop by a host":    func(x api.Tree) { x[0].Kids, x[1].Parent, x[7].Kids = []int{2}, 7, []int{1} },
		"a parent far away":   func(x api.Tree) { x[9].Parent = math.MaxInt },
		"a kid far away":      func(x api.Tree) { x[9].Kids = []int{math.MaxInt} },
		"a kid below":         func(x api.Tree) { x[9].Kids = []int{-1} },
		"its own kid":         func(x api.Tree) { x[9].Kids = []int{9} },
		"a shadow as a kid":   func(x api.Tree) { x[9].Kids = []int{10} },
		"a root far away":     func(x api.Tree) { x[9].Root = math.MaxInt },
		"a root of two":       func(x api.Tree) { x[9].Root = 10 },
		"its own root":        func(x api.Tree) { x[9].Root = 9 },
		"a host far away":     func(x api.Tree) { x[10].Host = math.MaxInt },
		"a host below":        func(x api.Tree) { x[10].Host = -2 },
		"its own host":        func(x api.Tree) { x[10].Host = 10 },
		"a value out of size": func(x api.Tree) { x[1].Attrs = []api.Attr{{Name: api.Hidden, Value: 1}} },
	} {
		x := sample()
		spoil(x)
		all[name] = x
	}
	for name, x := range all {
		if tree.Check(x) != api.ErrArg {
			t.Fatalf("%s: a tree that may be", name)
		}
	}
	return all
}
