package tree_test

import (
	"math/rand"
	"reflect"
	"testing"

	"limelight/api"
	"limelight/tree"
)

// sample: 0 has 1 and 2; 1 has 3, 4 (a Text) and 5; 5 has 9; 6 is 3's Shadow, and has 7 and 8; 10 has no place.
func sample() api.Tree {
	el := func(parent int, kids ...int) api.Node {
		return api.Node{Kind: api.Element, Parent: parent, Kids: kids, Host: -1, Root: -1}
	}
	t := api.Tree{
		{Kind: api.Document, Parent: -1, Kids: []int{1, 2}, Host: -1, Root: -1},
		el(0, 3, 4, 5), el(0), el(1), {Kind: api.Text, Parent: 1, Host: -1, Root: -1}, el(1, 9),
		{Kind: api.Shadow, Parent: -1, Kids: []int{7, 8}, Host: 3, Root: -1},
		el(6), el(6), el(5), el(-1),
	}
	t[3].Root = 6
	t[2].Tag = api.Dialog
	t[1].Attrs = []api.Attr{{Name: api.TabIndex, Value: 4}, {Name: api.Hidden}}
	t[6].Attrs = []api.Attr{{Name: api.Delegates}}
	return t
}

// same takes a list that is nil for an empty one.
func same(a, b api.Tree) bool {
	if len(a) != len(b) {
		return false
	}
	for n := range a {
		x, y := a[n], b[n]
		if len(x.Kids)+len(y.Kids) == 0 {
			x.Kids, y.Kids = nil, nil
		}
		if len(x.Attrs)+len(y.Attrs) == 0 {
			x.Attrs, y.Attrs = nil, nil
		}
		if !reflect.DeepEqual(x, y) {
			return false
		}
	}
	return true
}

func full(t *testing.T, x api.Tree) api.Tree {
	t.Helper()
	for len(x) < api.MaxNodes {
		next, _, e := tree.Make(x, api.Element, api.Box)
		if e != api.OK {
			t.Fatalf("Make of node %d: %d", len(x), e)
		}
		x = next
	}
	return x
}

// grow does some calls with numbers that are mostly right, so that the trees are of many shapes.
func grow(r *rand.Rand, calls int) api.Tree {
	x := tree.New()
	for range calls {
		n := func() int { return r.Intn(len(x)+1) - r.Intn(2) }
		switch r.Intn(8) {
		case 0, 1:
			x, _, _ = tree.Make(x, api.Element, r.Intn(5))
		case 2:
			x, _, _ = tree.Make(x, api.Text, 0)
		case 3:
			x, _, _ = tree.Attach(x, n())
		case 4:
			x, _ = tree.Remove(x, n())
		default:
			x, _ = tree.Insert(x, tree.Place{Parent: n(), Child: n(), Before: -1})
		}
	}
	return x
}

// attrs takes names and values by turns.
func attrs(pairs ...int) []api.Attr {
	var l []api.Attr
	for i := 0; i < len(pairs); i += 2 {
		l = append(l, api.Attr{Name: pairs[i], Value: pairs[i+1]})
	}
	return l
}
