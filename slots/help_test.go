package slots_test

import (
	"math"
	"math/rand"
	"testing"

	"limelight/api"
	"limelight/attr"
	"limelight/tree"
)

func el(tag int, parent int, kids ...int) api.Node {
	return api.Node{Kind: api.Element, Tag: tag, Parent: parent, Kids: kids, Host: -1, Root: -1}
}

func text(parent int) api.Node {
	return api.Node{Kind: api.Text, Parent: parent, Host: -1, Root: -1}
}

// over lays a Shadow, the next node, over a host.
func over(t api.Tree, host int, kids ...int) api.Tree {
	t[host].Root = len(t)
	return append(t, api.Node{Kind: api.Shadow, Parent: -1, Kids: kids, Host: host, Root: -1})
}

func with(t api.Tree, n int, name int, value int) api.Tree {
	t, e := attr.Set(t, n, api.Attr{Name: name, Value: value})
	if e != api.OK {
		panic("the sample may not be")
	}
	return t
}

// sample: 0 has the host 1, and 2, a slot by its tag alone. 1 has 3, 4 (a Text), 5, 6 and 7, which has 8.
// 1's Shadow 17 has the slot 12, which has the slot 10, and the host 11, which has the slots 9 and 13.
// 11's Shadow 18 has the slots 15 and 14. 16, without a place, is a host, too: its Shadow 19 has the slot 20; its kid is 21.
// The names: 1 of 3, 6, 10, 13 and 15; 2 of 5; 0, set, of 7; none of all others.
func sample() api.Tree {
	t := api.Tree{
		{Kind: api.Document, Parent: -1, Kids: []int{1, 2}, Host: -1, Root: -1},
		el(api.Box, 0, 3, 4, 5, 6, 7), el(api.Slot, 0),
		el(api.Box, 1), text(1), el(api.Button, 1), el(api.Slot, 1), el(api.Box, 1, 8), el(api.Box, 7),
		el(api.Slot, 11), el(api.Slot, 12), el(api.Box, 17, 9, 13), el(api.Slot, 17, 10), el(api.Slot, 11),
		el(api.Slot, 18), el(api.Slot, 18), el(api.Box, -1, 21),
	}
	t = over(t, 1, 12, 11)
	t = over(t, 11, 15, 14)
	t = over(t, 16, 20)
	t = append(t, el(api.Slot, 19), el(api.Box, 16))
	for n, name := range map[int]int{3: 1, 6: 1, 10: 1, 13: 1, 15: 1, 5: 2, 7: 0} {
		t = with(t, n, api.Name, name)
	}
	return t
}

// wide: 1's Shadow 2 has 30 slots of the names 30 down to 1, and 1 has 31 kids of the names 0 to 30: as many as can be.
func wide() api.Tree {
	t := tree.New()
	t, host, _ := tree.Make(t, api.Element, api.Box)
	t, root, _ := tree.Attach(t, host)
	add := func(parent, tag, name int) {
		t, _, _ = tree.Make(t, api.Element, tag)
		n := len(t) - 1
		t, _ = tree.Insert(t, tree.Place{Parent: parent, Child: n, Before: -1})
		t = with(t, n, api.Name, name)
	}
	for name := range 30 {
		add(root, api.Slot, 30-name)
	}
	for name := range 31 {
		add(host, api.Box, name)
	}
	return t
}

// grow does some calls with numbers that are mostly right, so that there are many slots, shadows and names.
func grow(r *rand.Rand, calls int) api.Tree {
	x := tree.New()
	for range calls {
		n := func() int { return r.Intn(len(x)+1) - r.Intn(2) }
		switch r.Intn(12) {
		case 0:
			x, _, _ = tree.Make(x, api.Element, r.Intn(5))
		case 1:
			x, _, _ = tree.Make(x, api.Element, api.Slot)
		case 2:
			x, _, _ = tree.Make(x, api.Text, 0)
		case 3:
			x, _, _ = tree.Attach(x, n())
		case 4:
			x, _ = attr.Set(x, n(), api.Attr{Name: api.Name, Value: r.Intn(3)})
		case 5:
			x, _ = attr.Set(x, n(), api.Attr{Name: api.SlotAt, Value: r.Intn(len(x))})
		case 6:
			x, _ = attr.Set(x, n(), api.Attr{Name: api.Manual})
		default:
			p := tree.Place{Parent: n(), Child: n(), Before: -1}
			if r.Intn(2) == 0 {
				p.Parent = hostOrShadow(r, x)
			}
			if p.Parent >= 0 && p.Parent < len(x) && len(x[p.Parent].Kids) > 0 && r.Intn(2) == 0 {
				p.Before = x[p.Parent].Kids[0]
			}
			x, _ = tree.Insert(x, p)
		}
	}
	return x
}

// hostOrShadow: somebody by whom kids come into slots, or -1.
func hostOrShadow(r *rand.Rand, x api.Tree) int {
	for _, n := range r.Perm(len(x)) {
		if x[n].Kind == api.Shadow || x[n].Root != -1 {
			return n
		}
	}
	return -1
}

// outside: numbers that are no nodes of a tree of that length.
func outside(length int) []int {
	return []int{-1, -2, length, length + 1, api.MaxNodes, math.MinInt, math.MaxInt}
}

// spoiled: trees that may not be, of some of which the numbers lead astray, or round and round.
func spoiled(t *testing.T) map[string]api.Tree {
	all := map[string]api.Tree{"nil": nil, "empty": {}, "too long": append(wide(), el(api.Box, -1))}
	for name, spoil := range map[string]func(x api.Tree){
		"a loop by parents":  func(x api.Tree) { x[16].Parent, x[21].Kids = 21, []int{16} },
		"a loop by a host":   func(x api.Tree) { x[16].Parent, x[20].Kids = 20, []int{16} },
		"a parent far away":  func(x api.Tree) { x[3].Parent = math.MaxInt },
		"a kid far away":     func(x api.Tree) { x[12].Kids = []int{math.MaxInt} },
		"a kid below":        func(x api.Tree) { x[1].Kids = append(x[1].Kids, -1) },
		"a root far away":    func(x api.Tree) { x[1].Root = math.MaxInt },
		"a root of two":      func(x api.Tree) { x[7].Root = 17 },
		"a host far away":    func(x api.Tree) { x[17].Host = math.MaxInt },
		"a host of none":     func(x api.Tree) { x[17].Host = -1 },
		"a slot's tag":       func(x api.Tree) { x[4].Tag = api.Slot },
		"a slot far away":    func(x api.Tree) { x[3].Attrs = []api.Attr{{Name: api.SlotAt, Value: api.MaxNodes}} },
		"a name below":       func(x api.Tree) { x[3].Attrs = []api.Attr{{Name: api.Name, Value: -1}} },
		"names that fall":    func(x api.Tree) { x[3].Attrs = []api.Attr{{Name: api.SlotAt}, {Name: api.Name}} },
		"an element by hand": func(x api.Tree) { x[3].Attrs = []api.Attr{{Name: api.Manual}} },
	} {
		x := sample()
		spoil(x)
		all[name] = x
	}
	for name, x := range all {
		if tree.Check(x) != api.ErrArg {
			t.Fatalf("%s: a tree that may be", name)
		}
	}
	return all
}
