package popup_test

import (
	"math"
	"math/rand"
	"reflect"
	"slices"
	"testing"

	"limelight/api"
	"limelight/attr"
	"limelight/shade"
	"limelight/top"
	"limelight/tree"
)

func el(tag int, parent int, kids ...int) api.Node {
	return api.Node{Kind: api.Element, Tag: tag, Parent: parent, Kids: kids, Host: -1, Root: -1}
}

func with(t api.Tree, n int, name int, value int) api.Tree {
	t, e := attr.Set(t, n, api.Attr{Name: name, Value: value})
	if e != api.OK {
		panic("the sample may not be")
	}
	return t
}

// kinds of the sample's nodes.
var kinds = map[int]int{1: api.Auto, 3: api.Hint, 5: api.Hand, 6: api.Auto, 8: api.Hint, 9: api.Auto, 11: api.Auto, 17: api.Auto, 19: api.Auto, 22: api.Hint}

// sample: 0 has the Auto 1, which has the Auto 6, and that the Button 14; 2, which has the Button 7 and the Hint 8, and that the Button 15;
// the Hint 3, which has the Auto 9; the host 4; the Hand 5, which has the Button 13; and the dialog 21, which has the Hint 22.
// The host 4 has the Button 10, the Auto 11, of name 5, which no slot shows, and the Text 12. Its Shadow 16 has the Auto 17, and that the slot 18.
// So 10 and 12 lie in 18, and in 17. Not connected: the Auto 19, which has 20.
func sample() api.Tree {
	t := api.Tree{
		{Kind: api.Document, Parent: -1, Kids: []int{1, 2, 3, 4, 5, 21}, Host: -1, Root: -1},
		el(api.Box, 0, 6), el(api.Box, 0, 7, 8), el(api.Box, 0, 9), el(api.Box, 0, 10, 11, 12), el(api.Box, 0, 13),
		el(api.Box, 1, 14), el(api.Button, 2), el(api.Box, 2, 15), el(api.Box, 3),
		el(api.Button, 4), el(api.Box, 4), {Kind: api.Text, Parent: 4, Host: -1, Root: -1},
		el(api.Button, 5), el(api.Button, 6), el(api.Button, 8),
		{Kind: api.Shadow, Parent: -1, Kids: []int{17}, Host: 4, Root: -1},
		el(api.Box, 16, 18), el(api.Slot, 17), el(api.Box, -1, 20), el(api.Box, 19), el(api.Dialog, 0, 22), el(api.Box, 21),
	}
	t[4].Root = 16
	for n, kind := range kinds {
		t = with(t, n, api.Popover, kind)
	}
	return with(t, 11, api.Name, 5)
}

// show is a view in which these popups are shown; the top layer stands the other way round, as that does not count.
func show(x api.Tree, popups ...int) api.View {
	v := api.View{Tree: x}
	for _, n := range popups {
		v.Popups = append(v.Popups, api.Shown{Node: n, Invoker: -1})
		v.Top = append([]int{n}, v.Top...)
	}
	return v
}

// busy: the stack of it is 1, 6, 17, 3, 8.
func busy() api.View {
	return show(sample(), 3, 1, 5, 6, 8, 17)
}

// outside: numbers that are no nodes of a tree of that length.
func outside(length int) []int {
	return []int{-1, -2, length, length + 1, api.MaxNodes, math.MinInt, math.MaxInt}
}

// spoiled: views that may not be, by their tree, or by what is open in it.
func spoiled(t *testing.T) map[string]api.View {
	long := sample()
	for len(long) <= api.MaxNodes {
		long = append(long, el(api.Box, -1))
	}
	all := map[string]api.View{"nothing": {}, "no nodes": {Tree: api.Tree{}}, "too long": {Tree: long}}
	for name, spoil := range map[string]func(v *api.View){
		"a loop":            func(v *api.View) { v.Tree[19].Parent, v.Tree[20].Kids = 20, []int{19} },
		"a kid far away":    func(v *api.View) { v.Tree[0].Kids = append(v.Tree[0].Kids, math.MaxInt) },
		"a root far away":   func(v *api.View) { v.Tree[1].Root = math.MaxInt },
		"a kind too high":   func(v *api.View) { v.Tree[1].Attrs = []api.Attr{{Name: api.Popover, Value: 4}} },
		"a text's kind":     func(v *api.View) { v.Tree[12].Attrs = []api.Attr{{Name: api.Popover, Value: api.Auto}} },
		"open, no dialog":   func(v *api.View) { v.Open = append(v.Open, 2) },
		"open and shown":    func(v *api.View) { v.Tree[1].Tag, v.Open = api.Dialog, append(v.Open, 1) },
		"modal, not on top": func(v *api.View) { v.Modal = append(v.Modal, 21) },
		"shown, no popup":   func(v *api.View) { v.Popups[0].Node, v.Top[5] = 2, 2 },
		"shown, no node":    func(v *api.View) { v.Popups[0].Node, v.Top[5] = math.MaxInt, math.MaxInt },
		"shown, not there":  func(v *api.View) { v.Popups[0].Node, v.Top[5] = 19, 19 },
		"shown twice":       func(v *api.View) { v.Popups, v.Top = append(v.Popups, v.Popups[0]), append(v.Top, 3) },
		"shown by no node":  func(v *api.View) { v.Popups[0].Invoker = 99 },
		"shown, not on top": func(v *api.View) { v.Top = v.Top[1:] },
		"on top, one more":  func(v *api.View) { v.Top = append(v.Top, 9) },
	} {
		v := busy()
		spoil(&v)
		all[name] = v
	}
	for name, v := range all {
		if top.Check(v) == api.OK {
			t.Fatalf("%s: a view that may be", name)
		}
	}
	return all
}

// grow makes a tree of which nearly all is connected, with many popups, and with shadows and slots.
func grow(r *rand.Rand, nodes int) api.Tree {
	x := tree.New()
	for len(x) < nodes {
		l := shade.List(x, 0)
		at := l[max(r.Intn(len(l)), r.Intn(len(l)))]
		if y, _, e := tree.Attach(x, at); e == api.OK && r.Intn(6) == 0 {
			x = y
			continue
		}
		x, _, _ = tree.Make(x, api.Element, []int{api.Box, api.Box, api.Dialog, api.Slot}[r.Intn(4)])
		n := len(x) - 1
		if r.Intn(15) != 0 {
			x, _ = tree.Insert(x, tree.Place{Parent: at, Child: n, Before: -1})
		}
		if r.Intn(3) != 0 {
			x = with(x, n, api.Popover, 1+r.Intn(5)%3)
		}
		if r.Intn(8) == 0 {
			x = with(x, n, api.Name, 1)
		}
	}
	return x
}

// anyView opens much of what can be open, in any order.
func anyView(r *rand.Rand, x api.Tree) api.View {
	v := api.View{Tree: x}
	for _, n := range r.Perm(len(x)) {
		w, e := top.Popup(v, api.Shown{Node: n, Invoker: r.Intn(len(x)+1) - 1})
		if e != api.OK || r.Intn(8) == 0 {
			w, e = top.Dialog(v, n, r.Intn(2) == 0)
		}
		if e == api.OK && r.Intn(3) != 0 {
			v = w
		}
	}
	return v
}

// same takes a list that is nil and one that is empty as one.
func same(a api.View, b api.View) bool {
	return reflect.DeepEqual(tree.Copy(a.Tree), tree.Copy(b.Tree)) && slices.Equal(a.Open, b.Open) && slices.Equal(a.Modal, b.Modal) && slices.Equal(a.Popups, b.Popups) && slices.Equal(a.Top, b.Top)
}
