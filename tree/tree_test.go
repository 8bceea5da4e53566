package tree_test

import (
	"math"
	"math/rand"
	"reflect"
	"slices"
	"testing"

	"limelight/api"
	"limelight/tree"
)

func TestNew(t *testing.T) {
	want := api.Tree{{Kind: api.Document, Parent: -1, Host: -1, Root: -1}}
	x := tree.New()
	if !same(x, want) || tree.Check(x) != api.OK {
		t.Errorf("P1.1: %+v", x)
	}
	x[0].Kind = 9
	if !same(tree.New(), want) {
		t.Error("R6: New hangs on what became of an earlier one")
	}
}

func TestCopy(t *testing.T) {
	odd := api.Tree{{Kind: 7, Tag: -3, Parent: 99, Kids: []int{5, 5}, Host: 4, Root: -8, Attrs: attrs(44, 1)}}
	for name, x := range map[string]api.Tree{"one that may be": sample(), "one that may not": odd, "nil": nil, "none": {}, "many": make(api.Tree, 100)} {
		if y := tree.Copy(x); !same(x, y) {
			t.Errorf("P1.1: %s: %+v", name, y)
		}
	}
	shared := []int{3, 4, 5}
	x := sample()
	x[1].Kids, x[2].Kids = shared, shared
	y := tree.Copy(x)
	y[0].Tag, y[0].Kids[0], y[1].Kids[0], y[1].Attrs[0].Value = 9, 9, 9, 9
	if x[0].Tag != 0 || x[0].Kids[0] != 1 || shared[0] != 3 || x[1].Attrs[0].Value != 4 {
		t.Errorf("P1.1: the copy is not on its own: %+v", x)
	}
	if y[2].Kids[0] != 3 {
		t.Errorf("R5: two lists of one copy share memory: %+v", y)
	}
}

func TestMake(t *testing.T) {
	for i, c := range []struct {
		kind, tag int
		want      api.Errno
	}{
		{api.Element, api.Box, api.OK}, {api.Element, api.Button, api.OK}, {api.Element, api.Link, api.OK}, {api.Text, 0, api.OK},
		{api.Document, 0, api.ErrKind}, {api.Shadow, 0, api.ErrKind}, {-1, 0, api.ErrKind}, {4, 0, api.ErrKind}, {math.MaxInt, 0, api.ErrKind},
		{api.Element, -1, api.ErrKind}, {api.Element, 5, api.ErrKind}, {api.Text, 1, api.ErrKind}, {api.Text, -1, api.ErrKind},
	} {
		x := sample()
		y, n, e := tree.Make(x, c.kind, c.tag)
		want, number := sample(), 0
		if c.want == api.OK {
			want, number = append(want, api.Node{Kind: c.kind, Tag: c.tag, Parent: -1, Host: -1, Root: -1}), 11
		}
		if e != c.want || n != number || !same(y, want) || !same(x, sample()) {
			t.Errorf("P1.2: case %d: %d, %d", i, n, e)
		}
	}
}

func TestAttach(t *testing.T) {
	for host, want := range map[int]api.Errno{
		1: api.OK, 7: api.OK, 10: api.OK,
		-1: api.ErrNode, 11: api.ErrNode, math.MaxInt: api.ErrNode, math.MinInt: api.ErrNode,
		0: api.ErrKind, 4: api.ErrKind, 6: api.ErrKind, 3: api.ErrShadow,
	} {
		x := sample()
		y, n, e := tree.Attach(x, host)
		tree1, number := sample(), 0
		if want == api.OK {
			tree1, number = append(tree1, api.Node{Kind: api.Shadow, Parent: -1, Host: host, Root: -1}), 11
			tree1[host].Root = 11
		}
		if e != want || n != number || !same(y, tree1) || !same(x, sample()) {
			t.Errorf("P1.2: host %d: %d, %d", host, n, e)
		}
	}
}

// TestFull: ErrFull comes behind what else is wrong.
func TestFull(t *testing.T) {
	x := full(t, sample())
	if y, n, e := tree.Make(x, api.Element, api.Box); e != api.ErrFull || n != 0 || !same(x, y) {
		t.Errorf("P1.2: Make: %d, %d", n, e)
	}
	if _, _, e := tree.Make(x, api.Shadow, 0); e != api.ErrKind {
		t.Errorf("R2: Make: %d", e)
	}
	for host, want := range map[int]api.Errno{1: api.ErrFull, 63: api.ErrFull, 64: api.ErrNode, 4: api.ErrKind, 3: api.ErrShadow} {
		if y, n, e := tree.Attach(x, host); e != want || n != 0 || !same(x, y) {
			t.Errorf("P1.2: Attach of %d: %d, %d", host, n, e)
		}
	}
	almost := x[:63]
	if y, n, e := tree.Make(almost, api.Text, 0); e != api.OK || n != 63 || len(y) != 64 || x[63].Kind != api.Element {
		t.Errorf("P1.2: the last one: %d, %d", n, e)
	}
	if y, n, e := tree.Attach(almost, 1); e != api.OK || n != 63 || len(y) != 64 || x[63].Kind != api.Element {
		t.Errorf("P1.2: the last one: %d, %d", n, e)
	}
}

func TestInsertMoves(t *testing.T) {
	for i, c := range []struct {
		p    tree.Place
		kids map[int][]int
	}{
		{tree.Place{Parent: 0, Child: 10, Before: -1}, map[int][]int{0: {1, 2, 10}}},
		{tree.Place{Parent: 0, Child: 10, Before: 1}, map[int][]int{0: {10, 1, 2}}},
		{tree.Place{Parent: 0, Child: 10, Before: 2}, map[int][]int{0: {1, 10, 2}}},
		{tree.Place{Parent: 2, Child: 10, Before: -1}, map[int][]int{2: {10}}},
		{tree.Place{Parent: 2, Child: 1, Before: -1}, map[int][]int{0: {2}, 2: {1}}},
		{tree.Place{Parent: 1, Child: 3, Before: -1}, map[int][]int{1: {4, 5, 3}}},
		{tree.Place{Parent: 1, Child: 3, Before: 5}, map[int][]int{1: {4, 3, 5}}},
		{tree.Place{Parent: 1, Child: 5, Before: 3}, map[int][]int{1: {5, 3, 4}}},
		{tree.Place{Parent: 1, Child: 5, Before: -1}, nil},
		{tree.Place{Parent: 1, Child: 3, Before: 4}, nil},
		{tree.Place{Parent: 1, Child: 3, Before: 3}, nil},
		{tree.Place{Parent: 1, Child: 4, Before: 4}, nil},
		{tree.Place{Parent: 6, Child: 4, Before: 8}, map[int][]int{1: {3, 5}, 6: {7, 4, 8}}},
		{tree.Place{Parent: 3, Child: 7, Before: -1}, map[int][]int{6: {8}, 3: {7}}},
		{tree.Place{Parent: 7, Child: 2, Before: -1}, map[int][]int{0: {1}, 7: {2}}},
		{tree.Place{Parent: 10, Child: 1, Before: -1}, map[int][]int{0: {2}, 10: {1}}},
	} {
		x, want := sample(), sample()
		for n, kids := range c.kids {
			want[n].Kids = kids
		}
		want[c.p.Child].Parent = c.p.Parent
		y, e := tree.Insert(x, c.p)
		if e != api.OK || !same(y, want) || !same(x, sample()) {
			t.Errorf("P1.3: case %d: %d: %+v", i, e, y)
		}
	}
}

func TestInsertRefuses(t *testing.T) {
	for i, c := range []struct {
		parent, child, before int
		want                  api.Errno
	}{
		{-1, 10, -1, api.ErrNode}, {11, 10, -1, api.ErrNode}, {math.MaxInt, 10, -1, api.ErrNode},
		{0, -1, -1, api.ErrNode}, {0, 11, -1, api.ErrNode}, {0, math.MinInt, -1, api.ErrNode},
		{0, 10, -2, api.ErrNode}, {0, 10, 11, api.ErrNode}, {0, 10, math.MaxInt, api.ErrNode},
		{4, 10, -1, api.ErrKind}, {10, 0, -1, api.ErrKind}, {10, 6, -1, api.ErrKind},
		{1, 1, -1, api.ErrLoop}, {3, 1, -1, api.ErrLoop}, {9, 1, -1, api.ErrLoop},
		{6, 3, -1, api.ErrLoop}, {7, 3, -1, api.ErrLoop}, {8, 1, -1, api.ErrLoop},
		{0, 10, 3, api.ErrNode}, {0, 10, 0, api.ErrNode}, {3, 10, 7, api.ErrNode}, {0, 10, 10, api.ErrNode}, {2, 1, 1, api.ErrNode},
		// of two that apply the first one
		{4, 11, -1, api.ErrNode}, {4, 10, 11, api.ErrNode}, {1, 1, 64, api.ErrNode},
		{4, 4, -1, api.ErrKind}, {0, 0, -1, api.ErrKind}, {6, 6, -1, api.ErrKind}, {4, 1, -1, api.ErrKind}, {4, 10, 3, api.ErrKind},
		{3, 1, 2, api.ErrLoop}, {1, 1, 1, api.ErrLoop},
	} {
		x := sample()
		y, e := tree.Insert(x, tree.Place{Parent: c.parent, Child: c.child, Before: c.before})
		if e != c.want || !same(y, sample()) || !same(x, sample()) {
			t.Errorf("P1.3: case %d: %d", i, e)
		}
	}
}

func TestRemove(t *testing.T) {
	for child, want := range map[int]api.Errno{
		1: api.OK, 2: api.OK, 3: api.OK, 4: api.OK, 5: api.OK, 7: api.OK, 9: api.OK,
		-1: api.ErrNode, 11: api.ErrNode, math.MaxInt: api.ErrNode, math.MinInt: api.ErrNode,
		0: api.ErrKind, 6: api.ErrKind, 10: api.ErrKind,
	} {
		x, tree1 := sample(), sample()
		if want == api.OK {
			p := tree1[child].Parent
			tree1[p].Kids = slices.DeleteFunc(tree1[p].Kids, func(k int) bool { return k == child })
			tree1[child].Parent = -1
		}
		y, e := tree.Remove(x, child)
		if e != want || !same(y, tree1) || !same(x, sample()) {
			t.Errorf("P1.3: child %d: %d", child, e)
		}
	}
}

// TestExample: the chapter's own, and the first one of the document's ten.
func TestExample(t *testing.T) {
	x, n, _ := tree.Make(tree.New(), api.Element, api.Box)
	x, e := tree.Insert(x, tree.Place{Parent: 0, Child: n, Before: -1})
	if e != api.OK || !slices.Equal(x[0].Kids, []int{1}) {
		t.Errorf("P1.3: %d: %v", e, x)
	}
	y, e := tree.Insert(x, tree.Place{Parent: 0, Child: 1, Before: 1})
	if e != api.OK || !same(x, y) {
		t.Errorf("P1.3: %d: %v", e, y)
	}
}

// anyCall does one call, and tells all that it answers.
func anyCall(which, a, b, c int, x api.Tree) (api.Tree, int, api.Errno) {
	switch which {
	case 0:
		return tree.Make(x, a, b)
	case 1:
		return tree.Attach(x, a)
	case 2:
		y, e := tree.Remove(x, a)
		return y, 0, e
	}
	y, e := tree.Insert(x, tree.Place{Parent: a, Child: b, Before: c})
	return y, 0, e
}

func TestTreesStayTrees(t *testing.T) {
	r := rand.New(rand.NewSource(2))
	for range 300 {
		x := tree.New()
		for range 200 {
			number := func() int { return r.Intn(len(x)+2) - 1 }
			which, a, b, c := r.Intn(5), number(), number(), number()
			if r.Intn(2) == 0 {
				c = -1
			}
			if which == 0 {
				a, b = r.Intn(4), r.Intn(6)
			}
			old := tree.Copy(x)
			y, n, e := anyCall(which, a, b, c, x)
			z, m, f := anyCall(which, a, b, c, x)
			if !same(y, z) || n != m || e != f {
				t.Fatalf("R6: call %d of %d, %d, %d: not the same again", which, a, b, c)
			}
			if !same(x, old) {
				t.Fatalf("R5: call %d of %d, %d, %d: the tree that was handed in is changed", which, a, b, c)
			}
			if tree.Check(y) != api.OK || !allowed(y) {
				t.Fatalf("P1.4: call %d of %d, %d, %d: %d: %+v", which, a, b, c, e, y)
			}
			if e != api.OK && (n != 0 || !same(x, y)) {
				t.Fatalf("R3: call %d of %d, %d, %d: %d", which, a, b, c, e)
			}
			x = y
		}
	}
}

// TestAnswersShareNothing: a tree that comes is not changed when the one it came of is.
func TestAnswersShareNothing(t *testing.T) {
	for which, args := range [][3]int{{api.Element, 0, 0}, {1, 0, 0}, {3, 0, 0}, {2, 10, -1}} {
		x := sample()
		y, _, e := anyCall(which, args[0], args[1], args[2], x)
		kept := tree.Copy(y)
		for n := range x {
			x[n].Tag = 77
			clear(x[n].Kids)
			clear(x[n].Attrs)
		}
		if e != api.OK || !reflect.DeepEqual(y, kept) {
			t.Errorf("R5: call %d: %d", which, e)
		}
	}
}

func TestNoPanic(t *testing.T) {
	r := rand.New(rand.NewSource(3))
	number := func() int { return []int{math.MinInt, -2, -1, 0, 1, 2, 5, 63, 64, math.MaxInt}[r.Intn(10)] }
	for range 20000 {
		x := make(api.Tree, r.Intn(5))
		for n := range x {
			x[n] = api.Node{Kind: number(), Tag: number(), Parent: number(), Host: number(), Root: number()}
			if r.Intn(2) == 0 {
				x[n].Kind = n % 4
			}
			for range r.Intn(3) {
				x[n].Kids = append(x[n].Kids, number())
				x[n].Attrs = append(x[n].Attrs, api.Attr{Name: number(), Value: number()})
			}
		}
		if r.Intn(2) == 0 {
			x = sample()
		}
		tree.Check(x)
		tree.Copy(x)
		for which := range 4 {
			anyCall(which, number(), number(), number(), x)
		}
	}
}
