package inert_test

import (
	"math/rand"
	"slices"
	"testing"

	"limelight/api"
	"limelight/attr"
	"limelight/flat"
	"limelight/inert"
	"limelight/top"
	"limelight/tree"
)

// but: all nodes of the sample without these.
func but(without ...int) []int {
	var l []int
	for n := range sample() {
		if !slices.Contains(without, n) {
			l = append(l, n)
		}
	}
	return l
}

// modal: the sample, with marks, and with these dialogs in the top layer, the lowest first.
func modal(marks []int, high ...int) api.View {
	v := api.View{Tree: sample(), Modal: high, Top: high}
	for _, n := range marks {
		v.Tree = with(v.Tree, n, api.Inert, 0)
	}
	return v
}

func blockedOnes(v api.View) []int {
	var l []int
	for n := range v.Tree {
		if inert.Blocked(v, n) {
			l = append(l, n)
		}
	}
	return l
}

// tells asks for All, and for Is at every node.
func tells(t *testing.T, name string, v api.View, want []int) {
	t.Helper()
	if l := inert.All(v); !slices.Equal(l, want) {
		t.Errorf("P12.3: %s: All %v, not %v", name, l, want)
	}
	for n := range v.Tree {
		if is := inert.Is(v, n); is != slices.Contains(want, n) {
			t.Errorf("P12.2: %s: Is of %d: %t", name, n, is)
		}
	}
}

func TestBlocked(t *testing.T) {
	x := sample()
	for name, c := range map[string]struct {
		v    api.View
		want []int
	}{
		"nothing open":                    {api.View{Tree: x}, nil},
		"dialogs that are not modal":      {api.View{Tree: x, Open: []int{2, 3, 17}}, nil},
		"popups":                          {api.View{Tree: x, Popups: shown(4, -1, 3, 1), Top: []int{3, 4}}, nil},
		"marks alone":                     {modal([]int{1, 5}), nil},
		"a modal one":                     {modal(nil, 2), but(0, 2, 8, 9)},
		"one in a popup":                  {modal(nil, 11), but(0, 11, 12)},
		"one in a shadow, with its slot":  {modal(nil, 17), but(0, 17, 18, 13, 14)},
		"one that no slot shows":          {modal(nil, 15), but(0, 15)},
		"two":                             {modal(nil, 2, 3), but(0, 3, 10)},
		"two, the other way round":        {modal(nil, 3, 2), but(0, 2, 8, 9)},
		"the order of Modal":              {api.View{Tree: x, Modal: []int{2, 3}, Top: []int{3, 2}}, but(0, 2, 8, 9)},
		"a popup above, outside and in":   {api.View{Tree: x, Modal: []int{2}, Popups: shown(4, -1, 9, -1), Top: []int{2, 9, 4}}, but(0, 2, 8, 9)},
		"an invoker in it does not help":  {api.View{Tree: x, Modal: []int{2}, Popups: shown(4, 8), Top: []int{2, 4}}, but(0, 2, 8, 9)},
		"another one that is only open":   {api.View{Tree: x, Open: []int{3}, Modal: []int{2}, Top: []int{2}}, but(0, 2, 8, 9)},
		"a dialog as a popup is no modal": {api.View{Tree: x, Modal: []int{2}, Popups: shown(3, -1), Top: []int{2, 3}}, but(0, 2, 8, 9)},
		"marks do not matter":             {modal([]int{2, 8, 1}, 2), but(0, 2, 8, 9)},
		"one that is hidden":              {api.View{Tree: with(x, 2, api.Hidden, 0), Modal: []int{2}, Top: []int{2}}, but(0, 2, 8, 9)},
	} {
		if top.Check(c.v) != api.OK {
			t.Fatalf("%s: a view that may not be", name)
		}
		if l := blockedOnes(c.v); !slices.Equal(l, c.want) {
			t.Errorf("P12.1: %s: %v, not %v", name, l, c.want)
		}
	}
}

// TestMarks: an attribute holds for what is below in the flat tree, wherever that stands in the other ones.
func TestMarks(t *testing.T) {
	for n, want := range map[int][]int{
		1: {1, 6, 7}, 7: {7}, 2: {2, 8, 9}, 9: {9}, 4: {4, 11, 12}, 5: {5, 13, 14, 17, 18, 20}, 13: {13, 14}, 15: {15},
		17: {13, 14, 17, 18}, 18: {13, 14, 18}, 19: {19}, 20: {20}, 21: {21, 22}, 22: {22}, 23: {23},
	} {
		tells(t, "a mark", modal([]int{n}), want)
		v := modal([]int{n})
		v.Open, v.Popups, v.Top = []int{2, 17}, shown(4, -1), []int{4}
		tells(t, "a mark, and others open", v, want)
	}
	tells(t, "no marks", modal(nil), nil)
	tells(t, "marks", modal([]int{14, 4, 2, 8, 23}), []int{2, 4, 8, 9, 11, 12, 14, 23})
	v := modal([]int{18})
	v.Tree, _ = tree.Remove(v.Tree, 13)
	tells(t, "a slot into which nobody is laid", v, []int{18, 19})
}

func TestIsAndAll(t *testing.T) {
	for name, c := range map[string]struct {
		v    api.View
		want []int
	}{
		"blocked alone":                       {modal(nil, 2), but(0, 2, 8, 9)},
		"a mark below the highest one":        {modal([]int{8}, 2), but(0, 2)},
		"a mark on the highest one":           {modal([]int{2}, 2), but(0)},
		"a mark elsewhere":                    {modal([]int{1, 15, 23}, 2), but(0, 2, 8, 9)},
		"a mark above the highest one":        {modal([]int{4}, 11), but(0, 11, 12)},
		"marks above, and below":              {modal([]int{4, 12}, 11), but(0, 11)},
		"marks above, and on it":              {modal([]int{4, 11}, 11), but(0)},
		"a mark on the host above":            {modal([]int{5}, 17), but(0, 17, 18, 13, 14)},
		"a mark on the slot":                  {modal([]int{5, 18}, 17), but(0, 17)},
		"a mark on who is laid into it":       {modal([]int{13}, 17), but(0, 17, 18)},
		"a mark on the dialog below":          {modal([]int{2}, 2, 3), but(0, 3, 10)},
		"one dialog in the other, both modal": {inner(nil, 2, 3), but(0, 3, 10)},
		"marks on the outer one":              {inner([]int{2}, 2, 3), but(0, 3, 10)},
		"the outer one is highest":            {inner([]int{3}, 3, 2), but(0, 2, 8, 9)},
		"one that no slot shows, with a mark": {modal([]int{5, 15}, 15), but(0)},
		"much":                                {busy(), but(0, 17)},
	} {
		if top.Check(c.v) != api.OK {
			t.Fatalf("%s: a view that may not be", name)
		}
		tells(t, name, c.v, c.want)
	}
}

// inner: as modal, but the dialog 3 lies in 8, and so in the dialog 2.
func inner(marks []int, high ...int) api.View {
	v := modal(marks, high...)
	v.Tree, _ = tree.Insert(v.Tree, tree.Place{Parent: 8, Child: 3, Before: -1})
	return v
}

// TestOtherAttributes: none but Inert makes inert.
func TestOtherAttributes(t *testing.T) {
	for _, a := range []api.Attr{{Name: api.TabIndex, Value: -1}, {Name: api.Disabled}, {Name: api.Hidden}, {Name: api.Name, Value: 3}, {Name: api.Autofocus}, {Name: api.Popover, Value: 1}, {Name: api.SlotAt, Value: 3}} {
		x, e := attr.Set(sample(), 7, a)
		if e != api.OK || inert.Is(api.View{Tree: x}, 7) || len(inert.All(api.View{Tree: x})) != 0 {
			t.Errorf("P12.2: attribute %d", a.Name)
		}
	}
}

func TestWrong(t *testing.T) {
	for name, v := range spoiled(t) {
		if l := inert.All(v); len(l) != 0 {
			t.Errorf("P12.3: %s: All %v", name, l)
		}
		for _, n := range append(outside(len(v.Tree)), 0, 1, 2, 18, 20) {
			if inert.Blocked(v, n) || inert.Is(v, n) {
				t.Errorf("P12.1: %s: %d", name, n)
			}
		}
	}
	for _, v := range []api.View{busy(), {Tree: tree.New()}} {
		for _, n := range outside(len(v.Tree)) {
			if inert.Blocked(v, n) || inert.Is(v, n) {
				t.Errorf("P12.1: %d is no node", n)
			}
		}
	}
	tells(t, "a document alone", api.View{Tree: tree.New()}, nil)
}

// TestExample: the chapter's one.
func TestExample(t *testing.T) {
	x := api.Tree{{Kind: api.Document, Parent: -1, Kids: []int{1, 2}, Host: -1, Root: -1}, el(api.Dialog, 0), el(api.Dialog, 0)}
	v, _ := top.Dialog(api.View{Tree: x}, 1, true)
	tells(t, "one", v, []int{2})
	v, _ = top.Dialog(v, 2, true)
	tells(t, "two", v, []int{1})
	v, _ = top.Close(v, 2)
	tells(t, "one again", v, []int{2})
}

// TestDeep: the longest way up, with a dialog in the middle.
func TestDeep(t *testing.T) {
	x := tree.New()
	for n := 1; n < api.MaxNodes; n++ {
		x, _, _ = tree.Make(x, api.Element, api.Dialog)
		x, _ = tree.Insert(x, tree.Place{Parent: n - 1, Child: n, Before: -1})
	}
	var most []int
	for n := 1; n < api.MaxNodes; n++ {
		most = append(most, n)
	}
	x = with(x, 1, api.Inert, 0)
	tells(t, "deep", api.View{Tree: x}, most)
	tells(t, "deep, a dialog", api.View{Tree: x, Modal: []int{32}, Top: []int{32}}, most[:31])
	tells(t, "deep, a dialog, and a mark", api.View{Tree: with(x, 63, api.Inert, 0), Modal: []int{32}, Top: []int{32}}, append(most[:31:31], 63))
}

// blocked and is say the words of P12.1 and P12.2 again.
func blocked(v api.View, n int) bool {
	high := top.Highest(v)
	return n != 0 && high != -1 && !flat.Above(v.Tree, high, n)
}

func is(v api.View, n int) bool {
	high := top.Highest(v)
	up := flat.Up(v.Tree, n)
	if at := slices.Index(up, high); at >= 0 {
		up = up[:at+1]
	}
	return blocked(v, n) || slices.ContainsFunc(up, func(x int) bool { return attr.Has(v.Tree, x, api.Inert) })
}

func TestAgainstTheWords(t *testing.T) {
	r := rand.New(rand.NewSource(12))
	byMark, byDialog, free := 0, 0, 0
	for range 1000 {
		v := anyView(r, grow(r, r.Intn(200)))
		if r.Intn(3) == 0 {
			v = withoutModal(v)
		}
		kept := top.Copy(v)
		var want []int
		for n := range v.Tree {
			if inert.Blocked(v, n) != blocked(v, n) {
				t.Fatalf("P12.1: Blocked of %d: %t: %+v", n, !blocked(v, n), v)
			}
			switch {
			case blocked(v, n):
				byDialog++
			case is(v, n):
				byMark++
			case top.Highest(v) != -1 && n != 0:
				free++
			}
			if is(v, n) {
				want = append(want, n)
			}
		}
		tells(t, "any", v, want)
		inTheHighest(t, v)
		if !same(v, kept) {
			t.Fatal("R5: the view is changed")
		}
		if t.Failed() {
			t.Fatalf("%+v", v)
		}
	}
	if byMark < 500 || byDialog < 1000 || free < 500 {
		t.Fatalf("too few are by a mark, by a dialog, or free below one: %d, %d, %d", byMark, byDialog, free)
	}
}

func withoutModal(v api.View) api.View {
	for _, n := range slices.Clone(v.Modal) {
		v, _ = top.Close(v, n)
	}
	return v
}

// inTheHighest: what follows: without the marks in the highest modal dialog nothing in it is inert, whatever stands elsewhere.
func inTheHighest(t *testing.T, v api.View) {
	t.Helper()
	high := top.Highest(v)
	if high == -1 {
		return
	}
	var in []int
	for n := range v.Tree {
		if flat.Above(v.Tree, high, n) {
			in = append(in, n)
			if v.Tree[n].Kind == api.Element {
				v.Tree, _ = attr.Drop(v.Tree, n, api.Inert)
			}
		}
	}
	for _, n := range in {
		if inert.Is(v, n) {
			t.Fatalf("P12.4: %d in %d: %+v", n, high, v)
		}
	}
}

// TestOwnMemory: what is answered shares nothing with what was handed in, and the same again is the same.
func TestOwnMemory(t *testing.T) {
	v := busy()
	first, second := inert.All(v), inert.All(v)
	kept := slices.Clone(second)
	clear(first[:cap(first)])
	if !same(v, busy()) || !slices.Equal(second, kept) || !slices.Equal(inert.All(v), kept) {
		t.Error("R5, R6: a change of the answer")
	}
	for n := range v.Tree {
		clear(v.Tree[n].Kids)
	}
	clear(v.Modal)
	clear(v.Top)
	if !slices.Equal(second, kept) {
		t.Error("R5: a change of what was handed in")
	}
}
