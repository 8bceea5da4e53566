package render_test

import (
	"math/rand"
	"slices"
	"testing"

	"limelight/api"
	"limelight/attr"
	"limelight/flat"
	"limelight/render"
	"limelight/top"
	"limelight/tree"
)

func but(length int, without []int) []int {
	var l []int
	for n := range length {
		if !slices.Contains(without, n) {
			l = append(l, n)
		}
	}
	return l
}

func owns(v api.View) []int {
	var l []int
	for n := range v.Tree {
		if render.Own(v, n) {
			l = append(l, n)
		}
	}
	return l
}

// tells asks for All, and for Is at every node.
func tells(t *testing.T, name string, v api.View, want []int) {
	t.Helper()
	if l := render.All(v); !slices.Equal(l, want) {
		t.Errorf("P11.2: %s: All %v, not %v", name, l, want)
	}
	for n := range v.Tree {
		if is := render.Is(v, n); is != slices.Contains(want, n) {
			t.Errorf("P11.2: %s: Is of %d: %t", name, n, is)
		}
	}
}

// openings: views of the sample; who is not rendered by itself; and what is rendered, in order.
func openings() map[string]struct {
	v      api.View
	no     []int
	listed []int
} {
	x := sample()
	return map[string]struct {
		v      api.View
		no     []int
		listed []int
	}{
		"nothing open":                             {api.View{Tree: x}, []int{2, 3, 4, 9, 11, 15, 17, 21, 23}, []int{0, 1, 6, 7, 5, 20}},
		"a dialog":                                 {api.View{Tree: x, Open: []int{2}}, []int{3, 4, 9, 11, 15, 17, 21, 23}, []int{0, 1, 6, 7, 2, 8, 5, 20}},
		"a modal one":                              {api.View{Tree: x, Modal: []int{2}, Top: []int{2}}, []int{3, 4, 9, 11, 15, 17, 21, 23}, []int{0, 1, 6, 7, 2, 8, 5, 20}},
		"a dialog in a popup that is not shown":    {api.View{Tree: x, Open: []int{11}}, []int{2, 3, 4, 9, 15, 17, 21, 23}, []int{0, 1, 6, 7, 5, 20}},
		"a popup with a dialog that is not open":   {api.View{Tree: x, Popups: shown(4, -1), Top: []int{4}}, []int{2, 3, 9, 11, 15, 17, 21, 23}, []int{0, 1, 6, 7, 4, 5, 20}},
		"both":                                     {api.View{Tree: x, Open: []int{11}, Popups: shown(4, 0), Top: []int{4}}, []int{2, 3, 9, 15, 17, 21, 23}, []int{0, 1, 6, 7, 4, 11, 12, 5, 20}},
		"a popup in a dialog that is not open":     {api.View{Tree: x, Popups: shown(9, -1), Top: []int{9}}, []int{2, 3, 4, 11, 15, 17, 21, 23}, []int{0, 1, 6, 7, 5, 20}},
		"a popup in a dialog":                      {api.View{Tree: x, Open: []int{2}, Popups: shown(9, -1), Top: []int{9}}, []int{3, 4, 11, 15, 17, 21, 23}, []int{0, 1, 6, 7, 2, 8, 9, 5, 20}},
		"a dialog with a popover":                  {api.View{Tree: x, Open: []int{3}}, []int{2, 4, 9, 11, 15, 17, 21, 23}, []int{0, 1, 6, 7, 3, 10, 5, 20}},
		"a modal one with a popover":               {api.View{Tree: x, Modal: []int{3}, Top: []int{3}}, []int{2, 4, 9, 11, 15, 17, 21, 23}, []int{0, 1, 6, 7, 3, 10, 5, 20}},
		"a dialog that is shown as a popup":        {api.View{Tree: x, Popups: shown(3, -1), Top: []int{3}}, []int{2, 3, 4, 9, 11, 15, 17, 21, 23}, []int{0, 1, 6, 7, 5, 20}},
		"a dialog in a shadow, with its slot":      {api.View{Tree: x, Open: []int{17}}, []int{2, 3, 4, 9, 11, 15, 21, 23}, []int{0, 1, 6, 7, 5, 17, 18, 13, 14, 20}},
		"a dialog that no slot shows":              {api.View{Tree: x, Modal: []int{15}, Top: []int{15}}, []int{2, 3, 4, 9, 11, 17, 21, 23}, []int{0, 1, 6, 7, 5, 20}},
		"an invoker is not shown for what it does": {api.View{Tree: x, Popups: shown(4, 9), Top: []int{4}}, []int{2, 3, 9, 11, 15, 17, 21, 23}, []int{0, 1, 6, 7, 4, 5, 20}},
		"much": {busy(), []int{8, 11, 21, 23}, []int{0, 1, 6, 7, 2, 3, 10, 4, 5, 17, 18, 13, 14, 20}},
	}
}

func TestOwn(t *testing.T) {
	for name, c := range openings() {
		if top.Check(c.v) != api.OK {
			t.Fatalf("%s: a view that may not be", name)
		}
		if l := owns(c.v); !slices.Equal(l, but(len(c.v.Tree), c.no)) {
			t.Errorf("P11.1: %s: %v, not all but %v", name, l, c.no)
		}
	}
}

// TestOwnOfHidden: Hidden holds for every Element, open or not, connected or not, and for no other node than itself.
func TestOwnOfHidden(t *testing.T) {
	for name, c := range openings() {
		for n, x := range c.v.Tree {
			if x.Kind != api.Element {
				continue
			}
			v := c.v
			v.Tree = with(v.Tree, n, api.Hidden, 0)
			if l := owns(v); !slices.Equal(l, but(len(v.Tree), append(slices.Clone(c.no), n))) {
				t.Errorf("P11.1: %s: %d hidden: %v", name, n, l)
			}
		}
	}
}

// TestOwnOfOthers: no other attribute hides, nor does the place of a tag on what is no dialog.
func TestOwnOfOthers(t *testing.T) {
	x := sample()
	for _, a := range []api.Attr{{Name: api.TabIndex, Value: -1}, {Name: api.Disabled}, {Name: api.Inert}, {Name: api.Name, Value: 2}, {Name: api.Autofocus}, {Name: api.SlotAt, Value: 2}} {
		y, e := attr.Set(x, 7, a)
		if e != api.OK || !render.Own(api.View{Tree: y}, 7) || !render.Is(api.View{Tree: y}, 7) {
			t.Errorf("P11.1: attribute %d hides", a.Name)
		}
	}
	for _, a := range []int{api.Delegates, api.Manual} {
		y, e := attr.Set(x, 16, api.Attr{Name: a})
		if e != api.OK || !render.Own(api.View{Tree: y}, 16) || render.Is(api.View{Tree: y}, 16) {
			t.Errorf("P11.1: a Shadow's attribute %d hides, or shows", a)
		}
	}
	for _, tag := range []int{api.Box, api.Button, api.Slot, api.Link} {
		y := sample()
		y[7].Tag = tag
		if !render.Own(api.View{Tree: y}, 7) {
			t.Errorf("P11.1: tag %d", tag)
		}
	}
	for _, value := range []int{api.Auto, api.Hint, api.Hand} {
		y := with(x, 7, api.Popover, value)
		if render.Own(api.View{Tree: y}, 7) || !render.Own(api.View{Tree: y, Popups: shown(7, -1), Top: []int{7}}, 7) {
			t.Errorf("P11.1: popover %d", value)
		}
	}
}

func TestIsAndAll(t *testing.T) {
	for name, c := range openings() {
		tells(t, name, c.v, c.listed)
	}
	v := api.View{Tree: sample(), Open: []int{17, 2}}
	for n, want := range map[int][]int{
		1:  {0, 2, 8, 5, 17, 18, 13, 14, 20},
		7:  {0, 1, 6, 2, 8, 5, 17, 18, 13, 14, 20},
		8:  {0, 1, 6, 7, 2, 5, 17, 18, 13, 14, 20},
		5:  {0, 1, 6, 7, 2, 8},
		17: {0, 1, 6, 7, 2, 8, 5, 20},
		18: {0, 1, 6, 7, 2, 8, 5, 17, 20},
		13: {0, 1, 6, 7, 2, 8, 5, 17, 18, 20},
		20: {0, 1, 6, 7, 2, 8, 5, 17, 18, 13, 14},
		22: {0, 1, 6, 7, 2, 8, 5, 17, 18, 13, 14, 20},
	} {
		w := v
		w.Tree = with(v.Tree, n, api.Hidden, 0)
		tells(t, "hidden", w, want)
	}
}

// TestSlots: a slot's own kids are rendered where nobody is laid into it, and a slot that is hidden hides who lies in it.
func TestSlots(t *testing.T) {
	v := api.View{Tree: sample(), Open: []int{17}}
	v.Tree, _ = tree.Remove(v.Tree, 13)
	tells(t, "an empty slot", v, []int{0, 1, 6, 7, 5, 17, 18, 19, 20})
	v.Tree = with(v.Tree, 18, api.Name, 5)
	tells(t, "a dialog in a slot, closed", v, []int{0, 1, 6, 7, 5, 17, 18, 20})
	v.Open = append(v.Open, 15)
	tells(t, "a dialog in a slot", v, []int{0, 1, 6, 7, 5, 17, 18, 15, 20})
	v.Tree = with(v.Tree, 18, api.Hidden, 0)
	tells(t, "a slot that is hidden", v, []int{0, 1, 6, 7, 5, 17, 20})
}

func TestWrong(t *testing.T) {
	for name, v := range spoiled(t) {
		if l := render.All(v); len(l) != 0 {
			t.Errorf("P11.2: %s: All %v", name, l)
		}
		for _, n := range append(outside(len(v.Tree)), 0, 1, 2, 7, 20) {
			if render.Own(v, n) || render.Is(v, n) {
				t.Errorf("P11.1: %s: %d", name, n)
			}
		}
	}
	for _, v := range []api.View{busy(), {Tree: tree.New()}} {
		for _, n := range outside(len(v.Tree)) {
			if render.Own(v, n) || render.Is(v, n) {
				t.Errorf("P11.1: %d is no node", n)
			}
		}
	}
	tells(t, "a document alone", api.View{Tree: tree.New()}, []int{0})
}

// TestExample: the chapter's one.
func TestExample(t *testing.T) {
	x := api.Tree{{Kind: api.Document, Parent: -1, Kids: []int{1}, Host: -1, Root: -1}, el(api.Dialog, 0, 2), el(api.Button, 1)}
	v, _ := top.Dialog(api.View{Tree: x}, 1, true)
	tells(t, "open", v, []int{0, 1, 2})
	v, _ = top.Close(v, 1)
	tells(t, "closed", v, []int{0})
}

// TestDeep: the longest way down, and the last one of it hidden by the first one.
func TestDeep(t *testing.T) {
	x := tree.New()
	var all []int
	for n := range api.MaxNodes {
		all = append(all, n)
		if n > 0 {
			x, _, _ = tree.Make(x, api.Element, api.Box)
			x, _ = tree.Insert(x, tree.Place{Parent: n - 1, Child: n, Before: -1})
		}
	}
	tells(t, "deep", api.View{Tree: x}, all)
	tells(t, "deep, hidden", api.View{Tree: with(x, 1, api.Hidden, 0)}, []int{0})
	tells(t, "deep, the last one hidden", api.View{Tree: with(x, 63, api.Hidden, 0)}, all[:63])
}

// own says P11.1's words again.
func own(v api.View, n int) bool {
	x := v.Tree[n]
	dialog := x.Kind == api.Element && x.Tag == api.Dialog
	open := slices.Contains(v.Open, n) || slices.Contains(v.Modal, n)
	popup := slices.ContainsFunc(v.Popups, func(p api.Shown) bool { return p.Node == n })
	if attr.Has(v.Tree, n, api.Hidden) || dialog && !open {
		return false
	}
	return !attr.Has(v.Tree, n, api.Popover) || popup || dialog && open
}

func rendered(v api.View, n int) bool {
	for _, x := range flat.Up(v.Tree, n) {
		if !own(v, x) {
			return false
		}
	}
	return flat.Has(v.Tree, n)
}

func TestAgainstTheWords(t *testing.T) {
	r := rand.New(rand.NewSource(11))
	yes, no, dialogs := 0, 0, 0
	for range 1000 {
		v := anyView(r, grow(r, r.Intn(200)))
		kept := top.Copy(v)
		var want []int
		for _, n := range flat.List(v.Tree) {
			if rendered(v, n) {
				want = append(want, n)
			} else {
				no++
			}
		}
		yes += len(want)
		tells(t, "any", v, want)
		for n := range v.Tree {
			if is := render.Own(v, n); is != own(v, n) {
				t.Fatalf("P11.1: Own of %d: %t: %+v", n, is, v)
			}
			if v.Tree[n].Tag == api.Dialog && render.Is(v, n) {
				dialogs++
			}
			for _, x := range flat.Up(v.Tree, n) {
				if !render.Is(v, x) && render.Is(v, n) {
					t.Fatalf("P11.3: %d is, but not %d above it", n, x)
				}
			}
		}
		if !same(v, kept) {
			t.Fatal("R5: the view is changed")
		}
		if t.Failed() {
			t.Fatalf("%+v", v)
		}
	}
	if yes < 3000 || no < 1000 || dialogs < 300 {
		t.Fatalf("too few are, are not, or are dialogs: %d, %d, %d", yes, no, dialogs)
	}
}

// TestOwnMemory: what is answered shares nothing with what was handed in, and the same again is the same.
func TestOwnMemory(t *testing.T) {
	v := busy()
	first, second := render.All(v), render.All(v)
	kept := slices.Clone(second)
	clear(first[:cap(first)])
	if !same(v, busy()) || !slices.Equal(second, kept) || !slices.Equal(render.All(v), kept) {
		t.Error("R5, R6: a change of the answer")
	}
	for n := range v.Tree {
		clear(v.Tree[n].Kids)
	}
	clear(v.Open)
	clear(v.Top)
	if !slices.Equal(second, kept) {
		t.Error("R5: a change of what was handed in")
	}
}
