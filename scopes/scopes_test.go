package scopes_test

import (
	"cmp"
	"math/rand"
	"slices"
	"testing"

	"limelight/api"
	"limelight/area"
	"limelight/flat"
	"limelight/scopes"
	"limelight/shade"
	"limelight/top"
	"limelight/tree"
)

// tells asks for the Items of all nodes: those that are not named have none.
func tells(t *testing.T, name string, v api.View, items map[int][]int) {
	t.Helper()
	if top.Check(v) != api.OK {
		t.Fatalf("%s: a view that may not be", name)
	}
	for n := range v.Tree {
		if l := scopes.Items(v, n); !slices.Equal(l, items[n]) {
			t.Errorf("P16.3: %s: Items of %d: %v, not %v", name, n, l, items[n])
		}
	}
}

func owned(t *testing.T, name string, v api.View, owners []int) {
	t.Helper()
	if top.Check(v) != api.OK || len(v.Tree) != len(owners) {
		t.Fatalf("%s: a view that may not be", name)
	}
	for n, want := range owners {
		if o := scopes.Owner(v, n); o != want {
			t.Errorf("P16.1: %s: Owner of %d: %d, not %d", name, n, o, want)
		}
	}
}

func TestOwner(t *testing.T) {
	x := sample()
	// 13 and 14 are laid into 18; nobody shows 15, nor 19; 16 is the Shadow itself.
	bare := []int{-1, 0, 0, 0, 0, 0, 0, 0, 0, 0, 0, 0, 0, 18, 18, -1, -1, 5, 5, -1, 5, -1, -1, -1}
	owned(t, "nothing open", api.View{Tree: x}, bare)
	owned(t, "dialogs own nothing", api.View{Tree: x, Open: []int{2, 17}, Modal: []int{11}, Top: []int{11}}, bare)
	in := slices.Clone(bare)
	in[11], in[12] = 4, 4
	owned(t, "a popup", api.View{Tree: x, Popups: shown(4, -1), Top: []int{4}}, in)
	in[10] = 3
	owned(t, "two, and one without kids", api.View{Tree: x, Popups: shown(4, 3, 9, 4, 3, 9), Top: []int{3, 4, 9}}, in)
	// A slot counts in a shadow alone; a host that is not in the flat tree owns, too.
	y := tree.Copy(x)
	y[8].Tag = api.Slot
	owned(t, "a slot in no shadow", api.View{Tree: y}, bare)
	y = append(over(x, 21, 25, 26), el(api.Slot, 24, 27), el(api.Box, 24), el(api.Box, 25))
	apart := append(slices.Clone(bare), -1, 21, 21, -1)
	apart[22] = 25
	owned(t, "not connected", api.View{Tree: y}, apart)
	// A host in a popup, a slot with a shadow of its own, a popup in a slot.
	y = over(over(with(x, 13, api.Popover, api.Auto), 18, 26), 12, 27)
	y = append(y, el(api.Box, 24), el(api.Box, 25))
	both := append(slices.Clone(in), -1, -1, 18, 12)
	both[10], both[13], both[14] = 0, -1, 13
	owned(t, "one in the other", api.View{Tree: y, Popups: shown(4, 13, 13, 4), Top: []int{4, 13}}, both)
}

func TestIndex(t *testing.T) {
	x := sample()
	for n := range x {
		if i := scopes.Index(api.View{Tree: x}, n); i != 0 {
			t.Errorf("P16.2: Index of %d: %d", n, i)
		}
		if x[n].Kind != api.Element {
			continue
		}
		for _, value := range []int{0, 1, 7, -1, -2, api.MaxValue - 1, -api.MaxValue} {
			v := api.View{Tree: with(x, n, api.TabIndex, value)}
			for m := range x {
				want := 0
				if m == n {
					want = value
				}
				if i := scopes.Index(v, m); i != want {
					t.Errorf("P16.2: Index of %d: %d, not %d", m, i, want)
				}
			}
		}
		for _, a := range []api.Attr{{Name: api.Disabled}, {Name: api.Hidden}, {Name: api.Inert}, {Name: api.Name, Value: 7}, {Name: api.Autofocus}, {Name: api.Popover, Value: 2}, {Name: api.SlotAt, Value: 3}} {
			if i := scopes.Index(api.View{Tree: with(x, n, a.Name, a.Value)}, n); i != 0 {
				t.Errorf("P16.2: Index of %d, with attribute %d: %d", n, a.Name, i)
			}
		}
	}
	v := busy()
	for n, x := range v.Tree {
		if i := scopes.Index(v, n); x.Kind == api.Element && i != n%3-1 {
			t.Errorf("P16.2: Index of %d: %d", n, i)
		}
	}
}

func TestPlace(t *testing.T) {
	x := with(with(sample(), 13, api.Popover, api.Auto), 8, api.Popover, api.Auto)
	for _, c := range []struct{ node, invoker, want int }{
		{4, -1, -1}, {4, 7, 7}, {4, 0, 0}, {4, 1, 1}, {4, 6, 6}, {4, 16, 16}, {4, 23, 23}, {4, 5, 5}, // it does not matter who invokes
		{4, 4, -1}, {4, 11, -1}, {4, 12, -1}, // itself, and who is below it
		{9, 8, 8}, {9, 2, 2}, {8, 9, -1}, // who is above it
		{13, 14, -1}, {13, 18, 18}, {13, 5, 5}, {13, 17, 17}, {13, 15, 15}, {13, 16, 16}, {13, 19, 19}, {13, 20, 20}, // by the flat tree
		{3, 10, -1}, {3, 2, 2},
	} {
		v := api.View{Tree: x, Popups: shown(c.node, c.invoker), Top: []int{c.node}}
		if top.Check(v) != api.OK {
			t.Fatalf("%+v: a view that may not be", c)
		}
		for n := range x {
			want := -1
			if n == c.node {
				want = c.want
			}
			if got := scopes.Place(v, n); got != want {
				t.Errorf("P16.2: %d, invoked by %d: Place of %d: %d, not %d", c.node, c.invoker, n, got, want)
			}
		}
	}
	v := api.View{Tree: x, Open: []int{2}, Modal: []int{17}, Popups: shown(9, 4, 4, 9, 13, 17, 3, 10), Top: []int{17, 9, 4, 13, 3}}
	for n := range x {
		want := map[int]int{9: 4, 4: 9, 13: 17}[n]
		if want == 0 {
			want = -1
		}
		if got := scopes.Place(v, n); got != want {
			t.Errorf("P16.2: of four: Place of %d: %d, not %d", n, got, want)
		}
	}
	// In a slot's flat way stands who is laid into it, not what it has itself; a kid that no slot shows is not below its host.
	y := with(with(sample(), 5, api.Popover, api.Auto), 18, api.Popover, api.Auto)
	for _, c := range [][3]int{{5, 14, -1}, {5, 20, -1}, {5, 15, 15}, {5, 16, 16}, {5, 19, 19}, {18, 13, -1}, {18, 19, 19}} {
		v := api.View{Tree: y, Popups: shown(c[0], c[1]), Top: []int{c[0]}}
		if got := scopes.Place(v, c[0]); got != c[2] {
			t.Errorf("P16.2: %d, invoked by %d: %d", c[0], c[1], got)
		}
	}
}

// row: a tree of a document with Buttons of these numbers, from 1 on.
func row(numbers ...int) api.Tree {
	x := tree.New()
	for i, number := range numbers {
		x, _, _ = tree.Make(x, api.Element, api.Button)
		x, _ = tree.Insert(x, tree.Place{Parent: 0, Child: i + 1, Before: -1})
		if number != 0 {
			x = with(x, i+1, api.TabIndex, number)
		}
	}
	return x
}

func TestOrder(t *testing.T) {
	const most = api.MaxValue - 1
	for _, c := range []struct{ numbers, items []int }{
		{nil, nil}, {[]int{0}, []int{1}}, {[]int{-1}, nil}, {[]int{-api.MaxValue, 5, -2}, []int{2}},
		{[]int{0, 0, 0}, []int{1, 2, 3}}, {[]int{3, 3, 3}, []int{1, 2, 3}}, {[]int{3, 2, 1}, []int{3, 2, 1}}, {[]int{1, 2, 3}, []int{1, 2, 3}},
		{[]int{0, 1}, []int{2, 1}}, {[]int{1, 0}, []int{1, 2}}, {[]int{0, most}, []int{2, 1}}, {[]int{most, 0, 1, most}, []int{3, 1, 4, 2}},
		{[]int{0, 2, -1, 1, 0, 2, 1, 0}, []int{4, 7, 2, 6, 1, 5, 8}},
	} {
		x := row(c.numbers...)
		tells(t, "a row", api.View{Tree: x}, map[int][]int{0: c.items})
		if len(x) > 1 {
			x = with(x, 1, api.TabIndex, 0)
			x[1].Tag = api.Box
			want := scopes.Items(api.View{Tree: x}, 0)
			if want == nil || !slices.Contains(want, 1) {
				t.Errorf("P16.3: a Box with TabIndex 0: %v", want)
			}
		}
	}
	// Who stands lower, but ahead, comes first; the tree's order counts, not the numbers of nodes.
	x := row(1, 1, 1, 1)
	x, _ = tree.Insert(x, tree.Place{Parent: 3, Child: 1, Before: -1})
	x, _ = tree.Insert(x, tree.Place{Parent: 0, Child: 2, Before: -1})
	tells(t, "moved", api.View{Tree: x}, map[int][]int{0: {3, 1, 4, 2}})
	x = with(x, 3, api.TabIndex, 0)
	tells(t, "moved, and another number", api.View{Tree: x}, map[int][]int{0: {1, 4, 2, 3}})
	// A long one: the same number leaves all where they stand.
	var numbers, items []int
	for n := 1; n < api.MaxNodes; n++ {
		numbers, items = append(numbers, n%2), append(items, n)
	}
	slices.SortStableFunc(items, func(a, b int) int { return cmp.Compare(b%2, a%2) })
	tells(t, "long", api.View{Tree: row(numbers...)}, map[int][]int{0: items})
}

// TestItems: of many, the TabIndex of n is n%3-1, so that those with n%3 == 0 are below 0, and those with n%3 == 2 stand ahead.
func TestItems(t *testing.T) {
	x := many()
	for name, c := range map[string]struct {
		v     api.View
		items map[int][]int
	}{
		"nothing open":                    {api.View{Tree: x}, map[int][]int{0: {5, 1, 7}, 5: {20}}},
		"a dialog":                        {api.View{Tree: x, Open: []int{2}}, map[int][]int{0: {2, 8, 5, 1, 7}, 5: {20}}},
		"one in a shadow":                 {api.View{Tree: x, Open: []int{17}}, map[int][]int{0: {5, 1, 7}, 5: {17, 20}, 18: {14, 13}}},
		"the slot, too":                   {api.View{Tree: with(x, 18, api.TabIndex, 1), Open: []int{17}}, map[int][]int{0: {5, 1, 7}, 5: {17, 18, 20}, 18: {14, 13}}},
		"the slot, in the closed one":     {api.View{Tree: with(x, 18, api.TabIndex, 1)}, map[int][]int{0: {5, 1, 7}, 5: {18, 20}}},
		"a host below 0":                  {api.View{Tree: with(x, 5, api.TabIndex, -1), Open: []int{17}}, map[int][]int{0: {1, 7}, 5: {17, 20}, 18: {14, 13}}},
		"a host that is hidden":           {api.View{Tree: with(x, 5, api.Hidden, 0), Open: []int{17}}, map[int][]int{0: {5, 1, 7}}},
		"a host that is inert":            {api.View{Tree: with(with(x, 5, api.Inert, 0), 18, api.TabIndex, 0)}, map[int][]int{0: {5, 1, 7}, 5: {18}}},
		"a host that delegates":           {api.View{Tree: with(x, 16, api.Delegates, 0)}, map[int][]int{0: {5, 1, 7}, 5: {20}}},
		"a disabled button":               {api.View{Tree: with(x, 7, api.Disabled, 0)}, map[int][]int{0: {5, 1}, 5: {20}}},
		"a popup":                         {api.View{Tree: x, Open: []int{11}, Popups: shown(4, -1), Top: []int{4}}, map[int][]int{0: {5, 1, 7, 4}, 4: {11}, 5: {20}}},
		"a popup with a place":            {api.View{Tree: x, Open: []int{11}, Popups: shown(4, 7), Top: []int{4}}, map[int][]int{0: {5, 1, 7}, 4: {11}, 5: {20}}},
		"a popup that holds its invoker":  {api.View{Tree: x, Open: []int{11}, Popups: shown(4, 12), Top: []int{4}}, map[int][]int{0: {5, 1, 7, 4}, 4: {11}, 5: {20}}},
		"a popup below 0":                 {api.View{Tree: x, Open: []int{3}, Popups: shown(9, -1), Top: []int{9}}, map[int][]int{0: {5, 1, 7, 10}, 5: {20}}},
		"a popup in a closed dialog":      {api.View{Tree: with(x, 9, api.TabIndex, 4), Popups: shown(9, -1), Top: []int{9}}, map[int][]int{0: {5, 9, 1, 7}, 5: {20}}},
		"a popup that is inert":           {api.View{Tree: x, Modal: []int{2}, Popups: shown(4, -1), Top: []int{2, 4}}, map[int][]int{0: {2, 8, 5, 4}}},
		"a modal one":                     {api.View{Tree: x, Modal: []int{17}, Top: []int{17}}, map[int][]int{0: {5}, 5: {17}, 18: {14, 13}}},
		"a popup that is a closed dialog": {api.View{Tree: with(x, 3, api.TabIndex, 1), Popups: shown(3, -1), Top: []int{3}}, map[int][]int{0: {3, 5, 1, 7}, 5: {20}}},
	} {
		tells(t, name, c.v, c.items)
	}
}

// TestShapes: scopes in scopes, and who is in none.
func TestShapes(t *testing.T) {
	// 0 has the host 1, which has the Buttons 2 and 3; 1's Shadow 4 has the host 5, and that 1's slot 6, laid into the slot 8 of 5's Shadow 7.
	x := api.Tree{{Kind: api.Document, Parent: -1, Kids: []int{1}, Host: -1, Root: -1}, el(api.Box, 0, 2, 3), el(api.Button, 1), el(api.Button, 1)}
	x = append(over(x, 1, 5), el(api.Box, 4, 6), el(api.Slot, 5))
	x = append(over(x, 5, 8, 9), el(api.Slot, 7), el(api.Button, 7))
	v := api.View{Tree: x}
	tells(t, "a slot in a slot", v, map[int][]int{0: {1}, 1: {5}, 5: {8, 9}, 8: {6}, 6: {2, 3}})
	owned(t, "a slot in a slot", v, []int{-1, 0, 6, 6, -1, 1, 8, -1, 5, 5})
	v.Tree = with(x, 6, api.TabIndex, -1)
	tells(t, "a slot below 0", v, map[int][]int{0: {1}, 1: {5}, 5: {8, 9}, 6: {2, 3}})
	v.Tree = with(with(x, 9, api.TabIndex, 1), 2, api.TabIndex, -1)
	tells(t, "other numbers", v, map[int][]int{0: {1}, 1: {5}, 5: {9, 8}, 8: {6}, 6: {3}})
	// A slot that shows nobody shows its own kids; one that shows somebody does not.
	y := append(tree.Copy(x), el(api.Link, 6))
	y[6].Kids = []int{10}
	tells(t, "a slot's own kids, hidden", api.View{Tree: y}, map[int][]int{0: {1}, 1: {5}, 5: {8, 9}, 8: {6}, 6: {2, 3}})
	y = with(with(y, 2, api.Name, 3), 3, api.Name, 3)
	tells(t, "a slot's own kids", api.View{Tree: y}, map[int][]int{0: {1}, 1: {5}, 5: {8, 9}, 8: {6}, 6: {10}})
	// Not in the flat tree: those own, but nobody is there to be reached.
	y, _ = tree.Remove(x, 1)
	tells(t, "not connected", api.View{Tree: y}, nil)
	if o := scopes.Owner(api.View{Tree: y}, 2); o != 6 {
		t.Errorf("P16.1: not connected: %d", o)
	}
	y = append(over(with(with(x, 2, api.Name, 3), 3, api.Name, 3), 2, 11), el(api.Button, 10))
	tells(t, "a host that no slot shows", api.View{Tree: y}, map[int][]int{0: {1}, 1: {5}, 5: {8, 9}, 8: {6}})
	// A slot in no shadow is an item as others are.
	y = api.Tree{{Kind: api.Document, Parent: -1, Kids: []int{1}, Host: -1, Root: -1}, el(api.Slot, 0, 2), el(api.Button, 1)}
	tells(t, "a slot in no shadow", api.View{Tree: y}, map[int][]int{0: {2}})
	tells(t, "one with a number", api.View{Tree: with(y, 1, api.TabIndex, 0)}, map[int][]int{0: {1, 2}})
}

// TestExample: the chapter's one.
func TestExample(t *testing.T) {
	tells(t, "four", api.View{Tree: row(2, 0, 1, 1)}, map[int][]int{0: {3, 4, 1, 2}})
}

func TestWrong(t *testing.T) {
	for name, v := range spoiled(t) {
		for _, n := range append(outside(len(v.Tree)), 0, 4, 5, 7, 9, 13, 18) {
			toldNothing(t, name, v, n)
		}
	}
	for _, v := range []api.View{busy(), {Tree: many()}, {Tree: tree.New()}} {
		for _, n := range outside(len(v.Tree)) {
			toldNothing(t, "no node", v, n)
		}
	}
	tells(t, "a document alone", api.View{Tree: tree.New()}, nil)
	owned(t, "a document alone", api.View{Tree: tree.New()}, []int{-1})
}

func toldNothing(t *testing.T, name string, v api.View, n int) {
	t.Helper()
	if o, i, p := scopes.Owner(v, n), scopes.Index(v, n), scopes.Place(v, n); o != -1 || i != -1 || p != -1 {
		t.Errorf("P16.1, P16.2: %s: %d: Owner %d, Index %d, Place %d", name, n, o, i, p)
	}
	if l := scopes.Items(v, n); len(l) != 0 {
		t.Errorf("P16.3: %s: Items of %d: %v", name, n, l)
	}
}

// TestDeep: as many scopes, one in the other, as there can be.
func TestDeep(t *testing.T) {
	x, at := tree.New(), 0
	items, owners := map[int][]int{}, []int{-1}
	for len(x)+1 < api.MaxNodes {
		host := len(x)
		x, _, _ = tree.Make(x, api.Element, api.Button)
		x, _ = tree.Insert(x, tree.Place{Parent: at, Child: host, Before: -1})
		items[max(host-2, 0)], owners = []int{host}, append(owners, max(host-2, 0), -1)
		x, at, _ = tree.Attach(x, host)
	}
	x, last, _ := tree.Make(x, api.Element, api.Link)
	x, _ = tree.Insert(x, tree.Place{Parent: at, Child: last, Before: -1})
	items[last-2], owners = []int{last}, append(owners, last-2)
	tells(t, "deep", api.View{Tree: x}, items)
	owned(t, "deep", api.View{Tree: x}, owners)
}

// owns, ownerOf, placeOf and itemsOf say the words of the chapter again.
func owns(v api.View, n int) bool {
	x := v.Tree[n]
	slot := x.Kind == api.Element && x.Tag == api.Slot && shade.Host(v.Tree, n) != -1
	popup := slices.ContainsFunc(v.Popups, func(s api.Shown) bool { return s.Node == n })
	return n == 0 || x.Kind == api.Element && x.Root != -1 || slot || popup
}

func ownerOf(v api.View, n int) int {
	for _, x := range flat.Up(v.Tree, n) {
		if x != n && owns(v, x) {
			return x
		}
	}
	return -1
}

func indexOf(v api.View, n int) int {
	for _, a := range v.Tree[n].Attrs {
		if a.Name == api.TabIndex {
			return a.Value
		}
	}
	return 0
}

func placeOf(v api.View, n int) int {
	i := slices.IndexFunc(v.Popups, func(s api.Shown) bool { return s.Node == n })
	if i == -1 || v.Popups[i].Invoker == -1 || slices.Contains(flat.Up(v.Tree, v.Popups[i].Invoker), n) {
		return -1
	}
	return v.Popups[i].Invoker
}

func itemsOf(v api.View, owner int) []int {
	var positive, others []int
	for _, n := range flat.List(v.Tree) {
		i := indexOf(v, n)
		if v.Tree[n].Kind != api.Element || ownerOf(v, n) != owner || i < 0 || placeOf(v, n) != -1 || !owns(v, n) && !area.Tabs(v, n) {
			continue
		}
		if i > 0 {
			positive = append(positive, n)
		} else {
			others = append(others, n)
		}
	}
	slices.SortStableFunc(positive, func(a, b int) int { return cmp.Compare(indexOf(v, a), indexOf(v, b)) })
	return append(positive, others...)
}

func TestAgainstTheWords(t *testing.T) {
	r := rand.New(rand.NewSource(16))
	var reached counts
	for range 1500 {
		v := anyView(r, grow(r, r.Intn(250)))
		if r.Intn(4) != 0 {
			v = withoutModal(v)
		}
		kept := top.Copy(v)
		items := map[int][]int{}
		for n := range v.Tree {
			if owns(v, n) {
				items[n] = itemsOf(v, n)
			}
			if got := scopes.Owner(v, n); got != ownerOf(v, n) {
				t.Fatalf("P16.1: %d: %d: %+v", n, got, v)
			}
			if i, p := scopes.Index(v, n), scopes.Place(v, n); i != indexOf(v, n) || p != placeOf(v, n) {
				t.Fatalf("P16.2: %d: %d, %d: %+v", n, i, p, v)
			}
		}
		tells(t, "any", v, items)
		whatFollows(t, v)
		if !same(v, kept) {
			t.Fatal("R5: the view is changed")
		}
		if t.Failed() {
			t.Fatalf("%+v", v)
		}
		reached.count(v, items)
	}
	if slices.Min(reached[:]) < 100 {
		t.Fatalf("too few: %v", reached)
	}
}

// counts: of items those that own a scope, those that do not, those of 0, of hosts, of slots, of popups, those of a number; and popups with a place.
type counts [8]int

func (c *counts) count(v api.View, items map[int][]int) {
	add := func(i int, is bool) {
		if is {
			c[i]++
		}
	}
	for owner, l := range items {
		for _, n := range l {
			add(0, owns(v, n))
			add(1, !owns(v, n))
			add(2, owner == 0)
			add(3, owner > 0 && v.Tree[owner].Root != -1)
			add(4, owner > 0 && v.Tree[owner].Tag == api.Slot && v.Tree[owner].Root == -1)
			add(5, slices.ContainsFunc(v.Popups, func(s api.Shown) bool { return s.Node == owner }))
			add(6, indexOf(v, n) > 0)
		}
	}
	for _, x := range v.Popups {
		add(7, placeOf(v, x.Node) != -1)
	}
}

// whatFollows is about P16.4.
func whatFollows(t *testing.T, v api.View) {
	t.Helper()
	seen := map[int]bool{}
	for owner := range v.Tree {
		for _, n := range scopes.Items(v, owner) {
			if seen[n] {
				t.Fatalf("P16.4: %d: %+v", n, v)
			}
			seen[n] = true
		}
	}
}

func withoutModal(v api.View) api.View {
	for _, n := range slices.Clone(v.Modal) {
		v, _ = top.Close(v, n)
	}
	return v
}

// TestOwnMemory: what is answered shares nothing with what was handed in, and the same again is the same.
func TestOwnMemory(t *testing.T) {
	v := api.View{Tree: many(), Open: []int{2, 17}, Popups: shown(4, 1), Top: []int{4}}
	for n := range v.Tree {
		first, second := scopes.Items(v, n), scopes.Items(v, n)
		kept := slices.Clone(second)
		for i := range first {
			first[i] = -7
		}
		if !slices.Equal(second, kept) || !slices.Equal(scopes.Items(v, n), kept) {
			t.Errorf("R5, R6: a change of the answer: %d", n)
		}
	}
	if !same(v, api.View{Tree: many(), Open: []int{2, 17}, Popups: shown(4, 1), Top: []int{4}}) {
		t.Error("R5: the view is changed")
	}
}
