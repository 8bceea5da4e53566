package area_test

import (
	"math"
	"math/rand"
	"slices"
	"testing"

	"limelight/api"
	"limelight/area"
	"limelight/attr"
	"limelight/flat"
	"limelight/inert"
	"limelight/render"
	"limelight/top"
	"limelight/tree"
)

// tells asks for All, and for Is and Tabs at every node.
func tells(t *testing.T, name string, v api.View, all []int, tabs []int) {
	t.Helper()
	if top.Check(v) != api.OK {
		t.Fatalf("%s: a view that may not be", name)
	}
	if l := area.All(v); !slices.Equal(l, all) {
		t.Errorf("P13.2: %s: All %v, not %v", name, l, all)
	}
	for n := range v.Tree {
		if is := area.Is(v, n); is != slices.Contains(all, n) {
			t.Errorf("P13.2: %s: Is of %d: %t", name, n, is)
		}
		if is := area.Tabs(v, n); is != slices.Contains(tabs, n) {
			t.Errorf("P13.2: %s: Tabs of %d: %t", name, n, is)
		}
	}
}

// tags: a tree of a node 1 to 5 of each tag from 0 to 4, and a Text 6.
func tags() api.Tree {
	return api.Tree{
		{Kind: api.Document, Parent: -1, Kids: []int{1, 2, 3, 4, 5, 6}, Host: -1, Root: -1},
		el(api.Box, 0), el(api.Button, 0), el(api.Dialog, 0), el(api.Slot, 0), el(api.Link, 0),
		{Kind: api.Text, Parent: 0, Host: -1, Root: -1},
	}
}

// disabledOnes are those for which Disabled is so; delegating is the like.
func disabledOnes(x api.Tree) []int {
	var l []int
	for n := range x {
		if area.Disabled(x, n) {
			l = append(l, n)
		}
	}
	return l
}

func delegating(x api.Tree) []int {
	var l []int
	for n := range x {
		if area.Delegates(x, n) {
			l = append(l, n)
		}
	}
	return l
}

func TestDisabled(t *testing.T) {
	x := tags()
	if l := disabledOnes(x); len(l) != 0 {
		t.Errorf("P13.1: without the attribute: %v", l)
	}
	for n := 1; n <= 5; n++ {
		y := with(x, n, api.Disabled, 0)
		if area.Disabled(y, n) != (n == 2) || len(disabledOnes(y)) > 1 {
			t.Errorf("P13.1: %d: %v", n, disabledOnes(y))
		}
		x = y
	}
	for _, a := range []api.Attr{{Name: api.TabIndex, Value: -1}, {Name: api.Hidden}, {Name: api.Inert}, {Name: api.Name}, {Name: api.Autofocus}, {Name: api.Popover, Value: 1}, {Name: api.SlotAt}} {
		if l := disabledOnes(with(tags(), 2, a.Name, a.Value)); len(l) != 0 {
			t.Errorf("P13.1: attribute %d disables", a.Name)
		}
		if l := disabledOnes(with(x, 2, a.Name, a.Value)); !slices.Equal(l, []int{2}) {
			t.Errorf("P13.1: attribute %d beside Disabled: %v", a.Name, l)
		}
	}
	// Above and below do not matter, nor whether it is connected.
	x = sample()
	for _, n := range []int{1, 5, 13, 22} {
		x = with(x, n, api.Disabled, 0)
	}
	if l := disabledOnes(x); len(l) != 0 {
		t.Errorf("P13.1: a kid of one that has it: %v", l)
	}
	for _, n := range []int{7, 12, 14, 21} {
		x = with(x, n, api.Disabled, 0)
	}
	if l := disabledOnes(x); !slices.Equal(l, []int{7, 12, 14}) {
		t.Errorf("P13.1: %v", l)
	}
}

func TestDelegates(t *testing.T) {
	x := sample()
	if l := delegating(x); len(l) != 0 {
		t.Errorf("P13.1: without the attribute: %v", l)
	}
	// The host alone: neither its Shadow, nor its kids, nor whom the Shadow holds.
	if l := delegating(with(x, 16, api.Delegates, 0)); !slices.Equal(l, []int{5}) {
		t.Errorf("P13.1: a host: %v", l)
	}
	if l := delegating(with(x, 16, api.Manual, 0)); len(l) != 0 {
		t.Errorf("P13.1: Manual delegates: %v", l)
	}
	if l := delegating(with(with(x, 16, api.Manual, 0), 16, api.Delegates, 0)); !slices.Equal(l, []int{5}) {
		t.Errorf("P13.1: both: %v", l)
	}
	for _, host := range []int{7, 17, 18, 22} {
		y := over(with(x, 16, api.Delegates, 0), host)
		if l := delegating(y); !slices.Equal(l, []int{5}) {
			t.Errorf("P13.1: a second host: %v", l)
		}
		if l := delegating(with(y, 24, api.Delegates, 0)); !slices.Equal(l, []int{5, host}) {
			t.Errorf("P13.1: two: %v", l)
		}
		y, _ = attr.Drop(with(y, 24, api.Delegates, 0), 16, api.Delegates)
		if l := delegating(y); !slices.Equal(l, []int{host}) {
			t.Errorf("P13.1: dropped: %v", l)
		}
	}
}

func TestIndex(t *testing.T) {
	index := func(x api.Tree, n int, value int, is bool) {
		t.Helper()
		if i, has := area.Index(x, n); i != value || has != is {
			t.Errorf("P13.1: Index of %d: %d, %t, not %d, %t", n, i, has, value, is)
		}
	}
	x := tags()
	for n := range x {
		index(x, n, 0, n == 2 || n == 5)
	}
	for n := 1; n <= 5; n++ {
		for _, value := range []int{0, 1, 7, -1, -2, api.MaxValue - 1, -api.MaxValue} {
			y := with(x, n, api.TabIndex, value)
			for m := range y {
				if m == n {
					index(y, m, value, true)
				} else {
					index(y, m, 0, m == 2 || m == 5)
				}
			}
		}
		for _, a := range []api.Attr{{Name: api.Disabled}, {Name: api.Hidden}, {Name: api.Inert}, {Name: api.Name, Value: 7}, {Name: api.Autofocus}, {Name: api.Popover, Value: 2}, {Name: api.SlotAt, Value: 3}} {
			y := with(x, n, a.Name, a.Value)
			index(y, n, 0, n == 2 || n == 5)
			index(with(y, n, api.TabIndex, 4), n, 4, true)
		}
	}
	// A host that delegates has an Index all the same; its Shadow has none.
	y := with(over(with(x, 2, api.TabIndex, 6), 2), 7, api.Delegates, 0)
	index(y, 2, 6, true)
	index(y, 7, 0, false)
	index(with(over(x, 5), 7, api.Delegates, 0), 5, 0, true)
	index(with(over(x, 1), 7, api.Delegates, 0), 1, 0, false)
	index(with(sample(), 23, api.TabIndex, 2), 23, 2, true)
}

// TestByItself: who can be focused, as far as that hangs on the node itself.
func TestByItself(t *testing.T) {
	x := tags()
	tells(t, "tags", api.View{Tree: x}, []int{2, 5}, []int{2, 5})
	for n := 1; n <= 4; n++ {
		x = with(x, n, api.TabIndex, 2-n)
	}
	tells(t, "numbers", api.View{Tree: x}, []int{1, 2, 4, 5}, []int{1, 2, 5})
	tells(t, "numbers, and a dialog", api.View{Tree: x, Open: []int{3}}, []int{1, 2, 3, 4, 5}, []int{1, 2, 5})
	for n := 1; n <= 5; n++ {
		x = with(x, n, api.Disabled, 0)
	}
	tells(t, "all with Disabled", api.View{Tree: x, Open: []int{3}}, []int{1, 3, 4, 5}, []int{1, 5})
	x, _ = attr.Drop(x, 2, api.Disabled)
	tells(t, "a button without it", api.View{Tree: x, Open: []int{3}}, []int{1, 2, 3, 4, 5}, []int{1, 2, 5})
	for n := 1; n <= 5; n++ {
		x = with(x, n, api.TabIndex, api.MaxValue-1)
	}
	tells(t, "the greatest", api.View{Tree: x}, []int{1, 2, 4, 5}, []int{1, 2, 4, 5})
	for n := 1; n <= 5; n++ {
		x = with(x, n, api.TabIndex, -api.MaxValue)
	}
	tells(t, "the least", api.View{Tree: x}, []int{1, 2, 4, 5}, nil)
}

// TestHosts: a host that delegates can't be focused, whatever its number; what it hands on to can.
func TestHosts(t *testing.T) {
	x := with(with(tags(), 1, api.TabIndex, 0), 5, api.TabIndex, 3)
	for _, host := range []int{1, 2, 5} {
		y := append(over(x, host, 8), el(api.Link, 7))
		all, without := []int{1, 2, 5, 8}, []int{1, 2, 5, 8}
		without = slices.DeleteFunc(without, func(n int) bool { return n == host })
		tells(t, "a host", api.View{Tree: y}, all, all)
		tells(t, "a host by hand", api.View{Tree: with(y, 7, api.Manual, 0)}, all, all)
		tells(t, "a host that delegates", api.View{Tree: with(y, 7, api.Delegates, 0)}, without, without)
	}
	// A host hides its kids, unless a slot shows them, and what delegates is no less in the flat tree.
	y := with(append(over(with(sample(), 13, api.TabIndex, 1), 7, 25), el(api.Slot, 24)), 24, api.Delegates, 0)
	tells(t, "no slot shows", api.View{Tree: y}, nil, nil)
	tells(t, "a slot shows", api.View{Tree: with(y, 16, api.Delegates, 0), Open: []int{17}}, []int{13, 14}, []int{13, 14})
}

func TestWhereItStands(t *testing.T) {
	x := many()
	// TabIndex of n is n%3-1: so all of those with n%3 == 0 are not reached by the tab key.
	for name, c := range map[string]struct {
		v   api.View
		all []int
	}{
		"nothing open":                     {api.View{Tree: x}, []int{1, 5, 7, 20}},
		"a dialog":                         {api.View{Tree: x, Open: []int{2}}, []int{1, 2, 5, 7, 8, 20}},
		"a dialog that is a popover":       {api.View{Tree: x, Open: []int{3}}, []int{1, 3, 5, 7, 10, 20}},
		"such a one, as a popup":           {api.View{Tree: x, Popups: shown(3, -1), Top: []int{3}}, []int{1, 5, 7, 20}},
		"a popup":                          {api.View{Tree: x, Popups: shown(4, -1), Top: []int{4}}, []int{1, 4, 5, 7, 20}},
		"a popup, and a dialog in it":      {api.View{Tree: x, Open: []int{11}, Popups: shown(4, -1), Top: []int{4}}, []int{1, 4, 5, 7, 11, 12, 20}},
		"a dialog in a shadow":             {api.View{Tree: x, Open: []int{17}}, []int{1, 5, 7, 13, 14, 17, 18, 20}},
		"a dialog that no slot shows":      {api.View{Tree: x, Open: []int{15}}, []int{1, 5, 7, 20}},
		"a modal one":                      {api.View{Tree: x, Modal: []int{2}, Top: []int{2}}, []int{2, 8}},
		"a modal one in a shadow":          {api.View{Tree: x, Modal: []int{17}, Top: []int{17}}, []int{13, 14, 17, 18}},
		"two":                              {api.View{Tree: x, Modal: []int{2, 3}, Top: []int{2, 3}}, []int{3, 10}},
		"a modal one that no slot shows":   {api.View{Tree: x, Modal: []int{15}, Top: []int{15}}, nil},
		"a popup outside of the modal one": {api.View{Tree: x, Modal: []int{2}, Popups: shown(4, 8), Top: []int{2, 4}}, []int{2, 8}},
		"a popup in it":                    {api.View{Tree: x, Modal: []int{2}, Popups: shown(9, 8), Top: []int{2, 9}}, []int{2, 8, 9}},
		"Hidden":                           {api.View{Tree: with(x, 1, api.Hidden, 0)}, []int{5, 20}},
		"Hidden, a host":                   {api.View{Tree: with(x, 5, api.Hidden, 0)}, []int{1, 7}},
		"Inert":                            {api.View{Tree: with(x, 1, api.Inert, 0)}, []int{5, 20}},
		"Inert, above the modal one":       {api.View{Tree: with(x, 5, api.Inert, 0), Modal: []int{17}, Top: []int{17}}, []int{13, 14, 17, 18}},
		"Inert, below the modal one":       {api.View{Tree: with(x, 13, api.Inert, 0), Modal: []int{17}, Top: []int{17}}, []int{17, 18}},
		"Autofocus does not help":          {api.View{Tree: with(with(x, 10, api.Autofocus, 0), 22, api.Autofocus, 0)}, []int{1, 5, 7, 20}},
		"much":                             {busy(), []int{13, 17, 18}},
	} {
		tabs := slices.DeleteFunc(slices.Clone(c.all), func(n int) bool { return n%3 == 0 })
		tells(t, name, c.v, c.all, tabs)
	}
}

// TestExample: the chapter's one.
func TestExample(t *testing.T) {
	x := with(tags(), 2, api.TabIndex, -1)
	tells(t, "a button with -1", api.View{Tree: x}, []int{2, 5}, []int{5})
}

func TestWrong(t *testing.T) {
	for name, v := range spoiled(t) {
		if l := area.All(v); len(l) != 0 {
			t.Errorf("P13.2: %s: All %v", name, l)
		}
		for _, n := range append(outside(len(v.Tree)), 0, 1, 2, 7, 12, 16) {
			if area.Is(v, n) || area.Tabs(v, n) {
				t.Errorf("P13.2: %s: %d", name, n)
			}
			if tree.Check(v.Tree) != api.OK {
				toldNothing(t, v.Tree, n)
			}
		}
	}
	x := with(with(many(), 16, api.Delegates, 0), 7, api.Disabled, 0)
	for _, x := range []api.Tree{x, tree.New()} {
		for _, n := range append(outside(len(x)), 0) {
			toldNothing(t, x, n)
			if v := (api.View{Tree: x}); area.Is(v, n) || area.Tabs(v, n) {
				t.Errorf("P13.2: %d", n)
			}
		}
	}
	tells(t, "a document alone", api.View{Tree: tree.New()}, nil, nil)
}

func toldNothing(t *testing.T, x api.Tree, n int) {
	t.Helper()
	if i, is := area.Index(x, n); i != 0 || is || area.Disabled(x, n) || area.Delegates(x, n) {
		t.Errorf("P13.1: %d is no node", n)
	}
}

// TestBadTree: not even of nodes that seem right, and have no attributes, anything is told.
func TestBadTree(t *testing.T) {
	kids, root := tags(), tags()
	kids[6].Kids = []int{1}
	root[2].Root = math.MaxInt
	for _, x := range []api.Tree{kids, root} {
		for n := range x {
			toldNothing(t, x, n)
			if v := (api.View{Tree: x}); area.Is(v, n) || area.Tabs(v, n) || len(area.All(v)) != 0 {
				t.Errorf("P13.2: %d, in a tree that may not be", n)
			}
		}
	}
}

// TestDeep: the longest way up, all of it with all that a button may have.
func TestDeep(t *testing.T) {
	x := tree.New()
	var most []int
	for n := 1; n < api.MaxNodes; n++ {
		x, _, _ = tree.Make(x, api.Element, api.Button)
		x, _ = tree.Insert(x, tree.Place{Parent: n - 1, Child: n, Before: -1})
		x = with(with(x, n, api.TabIndex, n), n, api.Autofocus, 0)
		most = append(most, n)
	}
	tells(t, "deep", api.View{Tree: x}, most, most)
	tells(t, "deep, and hidden from the middle", api.View{Tree: with(x, 32, api.Hidden, 0)}, most[:31], most[:31])
	tells(t, "deep, and inert from the middle", api.View{Tree: with(x, 32, api.Inert, 0)}, most[:31], most[:31])
	tells(t, "deep, and one disabled", api.View{Tree: with(x, 63, api.Disabled, 0)}, most[:62], most[:62])
}

// own, is and tabs say the words of P13.1 and P13.2 again, attribute by attribute.
func own(x api.Tree, n int) (index int, is bool) {
	if x[n].Kind != api.Element {
		return 0, false
	}
	for _, a := range x[n].Attrs {
		if a.Name == api.TabIndex {
			return a.Value, true
		}
	}
	return 0, x[n].Tag == api.Button || x[n].Tag == api.Link
}

func isDisabled(x api.Tree, n int) bool {
	return x[n].Kind == api.Element && x[n].Tag == api.Button && slices.Contains(x[n].Attrs, api.Attr{Name: api.Disabled})
}

func handsOn(x api.Tree, n int) bool {
	return x[n].Root != -1 && slices.Contains(x[x[n].Root].Attrs, api.Attr{Name: api.Delegates})
}

func is(v api.View, n int) bool {
	_, has := own(v.Tree, n)
	return has && !isDisabled(v.Tree, n) && !handsOn(v.Tree, n) && render.Is(v, n) && !inert.Is(v, n)
}

func TestAgainstTheWords(t *testing.T) {
	r := rand.New(rand.NewSource(13))
	can, byTab, disabled, handing, unseen, still := 0, 0, 0, 0, 0, 0
	for range 1000 {
		v := anyView(r, grow(r, r.Intn(250)))
		if r.Intn(2) == 0 {
			v = withoutModal(v)
		}
		kept := top.Copy(v)
		var all, tabs []int
		for n := range v.Tree {
			i, has := own(v.Tree, n)
			if got, gotHas := area.Index(v.Tree, n); got != i || gotHas != has {
				t.Fatalf("P13.1: Index of %d: %d, %t: %+v", n, got, gotHas, v)
			}
			if area.Disabled(v.Tree, n) != isDisabled(v.Tree, n) || area.Delegates(v.Tree, n) != handsOn(v.Tree, n) {
				t.Fatalf("P13.1: Disabled or Delegates of %d: %+v", n, v)
			}
			switch {
			case is(v, n):
				all = append(all, n)
				can++
				if i >= 0 {
					tabs = append(tabs, n)
					byTab++
				}
			case isDisabled(v.Tree, n):
				disabled++
			case handsOn(v.Tree, n):
				handing++
			case has && !render.Is(v, n):
				unseen++
			case has:
				still++
			}
		}
		tells(t, "any", v, all, tabs)
		whatFollows(t, v)
		if !same(v, kept) {
			t.Fatal("R5: the view is changed")
		}
		if t.Failed() {
			t.Fatalf("%+v", v)
		}
	}
	if can < 500 || byTab < 300 || can-byTab < 100 || disabled < 100 || handing < 100 || unseen < 500 || still < 300 {
		t.Fatalf("too few: %d can be focused, %d by the tab key, %d are disabled, %d delegate, %d are not rendered, %d are inert", can, byTab, disabled, handing, unseen, still)
	}
}

// whatFollows: P13.3, and that none can be focused who is not seen.
func whatFollows(t *testing.T, v api.View) {
	t.Helper()
	high := top.Highest(v)
	for _, n := range area.All(v) {
		if !render.Is(v, n) || inert.Is(v, n) || !flat.Has(v.Tree, n) || high != -1 && !flat.Above(v.Tree, high, n) {
			t.Fatalf("P13.3: %d: %+v", n, v)
		}
	}
}

func withoutModal(v api.View) api.View {
	for _, n := range slices.Clone(v.Modal) {
		v, _ = top.Close(v, n)
	}
	return v
}

// TestOwnMemory: what is answered shares nothing with what was handed in, and the same again is the same.
func TestOwnMemory(t *testing.T) {
	v := busy()
	first, second := area.All(v), area.All(v)
	kept := slices.Clone(second)
	clear(first[:cap(first)])
	if !same(v, busy()) || !slices.Equal(second, kept) || !slices.Equal(area.All(v), kept) {
		t.Error("R5, R6: a change of the answer")
	}
	for n := range v.Tree {
		clear(v.Tree[n].Kids)
		clear(v.Tree[n].Attrs)
	}
	clear(v.Modal)
	clear(v.Top)
	if !slices.Equal(second, kept) {
		t.Error("R5: a change of what was handed in")
	}
}
