package fire_test

import (
	"math"
	"math/rand"
	"testing"

	"limelight/api"
	"limelight/attr"
	"limelight/tree"
)

func el(tag int, parent int, kids ...int) api.Node {
	return api.Node{Kind: api.Element, Tag: tag, Parent: parent, Kids: kids, Host: -1, Root: -1}
}

// over lays a Shadow, the next node, over a host.
func over(t api.Tree, host int, kids ...int) api.Tree {
	t[host].Root = len(t)
	return append(t, api.Node{Kind: api.Shadow, Parent: -1, Kids: kids, Host: host, Root: -1})
}

func with(t api.Tree, n int, name int, value int) api.Tree {
	t, e := attr.Set(t, n, api.Attr{Name: name, Value: value})
	if e != api.OK {
		panic("the sample may not be")
	}
	return t
}

func into(t api.Tree, parent int, child int) api.Tree {
	t, e := tree.Insert(t, tree.Place{Parent: parent, Child: child, Before: -1})
	if e != api.OK {
		panic("the sample may not be")
	}
	return t
}

// sample: 0 has the host 1, and 2, a slot by its tag alone, which has 6. 1 has 3, which has 7; 4, a Text; and 5, of name 9, which has 8.
// 1's Shadow 17 has the slot 9, which has 11, and 10, of name 1, which has the host 12. 12 has the slot 13, which has 16, and 14, of name 5.
// 12's Shadow 18 has the slot 15. 19, without a place, is a host, too: its Shadow 20 has the slot 22; its kid is 21.
// So 3 and 4 lie in 9, 13 in 15, 21 in 22; 5 and 14 have no slot.
func sample() api.Tree {
	t := api.Tree{
		{Kind: api.Document, Parent: -1, Kids: []int{1, 2}, Host: -1, Root: -1},
		el(api.Box, 0, 3, 4, 5), el(api.Slot, 0, 6), el(api.Box, 1, 7), {Kind: api.Text, Parent: 1, Host: -1, Root: -1}, el(api.Button, 1, 8),
		el(api.Box, 2), el(api.Box, 3), el(api.Box, 5),
		el(api.Slot, 17, 11), el(api.Slot, 17, 12), el(api.Box, 9), el(api.Box, 10, 13, 14), el(api.Slot, 12, 16), el(api.Box, 12),
		el(api.Slot, 18), el(api.Box, 13),
	}
	t = over(t, 1, 9, 10)
	t = over(t, 12, 15)
	t = append(t, el(api.Box, -1, 21))
	t = over(t, 19, 22)
	t = append(t, el(api.Box, 19), el(api.Slot, 20))
	return with(with(with(t, 5, api.Name, 9), 10, api.Name, 1), 14, api.Name, 5)
}

// tunnel: each of 20 shadows but the last has the host of the next one, and in that a slot, which is so laid into the next one's slot.
// Hosts are 2, 5, 8 and so on, each with its Shadow behind it, and that one's slot behind that; 1 is the first host's.
func tunnel() api.Tree {
	t, in, _ := tree.Make(tree.New(), api.Element, api.Button)
	at := 0
	for range 20 {
		host := len(t)
		t, _, _ = tree.Make(t, api.Element, api.Box)
		t = into(into(t, at, host), host, in)
		t, at, _ = tree.Attach(t, host)
		t, in, _ = tree.Make(t, api.Element, api.Slot)
	}
	return into(t, at, in)
}

// grow does some calls with numbers that are mostly right, so that there are many slots, shadows and names.
func grow(r *rand.Rand, calls int) api.Tree {
	x := tree.New()
	for range calls {
		n := func() int { return r.Intn(len(x)+1) - r.Intn(2) }
		switch r.Intn(12) {
		case 0:
			x, _, _ = tree.Make(x, api.Element, r.Intn(5))
		case 1:
			x, _, _ = tree.Make(x, api.Element, api.Slot)
		case 2:
			x, _, _ = tree.Make(x, api.Text, 0)
		case 3:
			x, _, _ = tree.Attach(x, n())
		case 4:
			x, _ = attr.Set(x, n(), api.Attr{Name: api.Name, Value: r.Intn(3)})
		case 5:
			x, _ = attr.Set(x, n(), api.Attr{Name: api.SlotAt, Value: r.Intn(len(x))})
		case 6:
			x, _ = attr.Set(x, n(), api.Attr{Name: api.Manual})
		default:
			p := tree.Place{Parent: n(), Child: n(), Before: -1}
			if r.Intn(2) == 0 {
				p.Parent = hostOrShadow(r, x)
			}
			x, _ = tree.Insert(x, p)
		}
	}
	return x
}

// hostOrShadow: somebody by whom kids come into slots, or -1.
func hostOrShadow(r *rand.Rand, x api.Tree) int {
	for _, n := range r.Perm(len(x)) {
		if x[n].Kind == api.Shadow || x[n].Root != -1 {
			return n
		}
	}
	return -1
}

// outside: numbers that are no nodes of a tree of that length.
func outside(length int) []int {
	return []int{-1, -2, length, length + 1, api.MaxNodes, math.MinInt, math.MaxInt}
}

// spoiled: trees that may not be, of some of which the numbers lead astray, or round and round.
func spoiled(t *testing.T) map[string]api.Tree {
	long := tunnel()
	for len(long) <= api.MaxNodes {
		long = append(long, el(api.Box, -1))
	}
	all := map[string]api.Tree{"nil": nil, "empty": {}, "too long": long}
	for name, spoil := range map[string]func(x api.Tree){
		"a loop by parents": func(x api.Tree) { x[19].Parent, x[21].Kids = 21, []int{19} },
		"a loop by a host":  func(x api.Tree) { x[19].Parent, x[22].Kids = 22, []int{19} },
		"a parent far away": func(x api.Tree) { x[7].Parent = math.MaxInt },
		"a parent below":    func(x api.Tree) { x[7].Parent = -2 },
		"a kid far away":    func(x api.Tree) { x[0].Kids = append(x[0].Kids, math.MaxInt) },
		"its own kid":       func(x api.Tree) { x[7].Kids = []int{7} },
		"a root far away":   func(x api.Tree) { x[1].Root = math.MaxInt },
		"its own root":      func(x api.Tree) { x[2].Root = 2 },
		"a host far away":   func(x api.Tree) { x[17].Host = math.MaxInt },
		"its own host":      func(x api.Tree) { x[17].Host = 17 },
		"a host of none":    func(x api.Tree) { x[17].Host = -1 },
		"a slot's tag":      func(x api.Tree) { x[4].Tag = api.Slot },
		"a slot far away":   func(x api.Tree) { x[3].Attrs = []api.Attr{{Name: api.SlotAt, Value: api.MaxNodes}} },
	} {
		x := sample()
		spoil(x)
		all[name] = x
	}
	for name, x := range all {
		if tree.Check(x) != api.ErrArg {
			t.Fatalf("%s: a tree that may be", name)
		}
	}
	return all
}
