package tabs_test

import (
	"math"
	"math/rand"
	"reflect"
	"slices"
	"testing"

	"limelight/api"
	"limelight/area"
	"limelight/attr"
	"limelight/shade"
	"limelight/top"
	"limelight/tree"
)

func el(tag int, parent int, kids ...int) api.Node {
	return api.Node{Kind: api.Element, Tag: tag, Parent: parent, Kids: kids, Host: -1, Root: -1}
}

// over lays a Shadow, the next node, over a host.
func over(t api.Tree, host int, kids ...int) api.Tree {
	t = tree.Copy(t)
	t[host].Root = len(t)
	return append(t, api.Node{Kind: api.Shadow, Parent: -1, Kids: kids, Host: host, Root: -1})
}

func with(t api.Tree, n int, name int, value int) api.Tree {
	t, e := attr.Set(t, n, api.Attr{Name: name, Value: value})
	if e != api.OK {
		panic("the sample may not be")
	}
	return t
}

// sample: 0 has the Box 1; the dialogs 2 and 3, of which 3 is a popup, too; the popup 4; and the host 5.
// 1 has 6, a Text, and the Button 7; 2 has 8, and that the popup 9; 3 has 10; 4 has the dialog 11, and that 12.
// 5 has 13, which has 14, and 15, a dialog of name 5, which no slot shows. 5's Shadow 16 has the dialog 17, which has the slot 18, with 19 in it; and the Box 20.
// Not connected: the dialog 21, which has 22; and the popup 23.
func sample() api.Tree {
	t := api.Tree{
		{Kind: api.Document, Parent: -1, Kids: []int{1, 2, 3, 4, 5}, Host: -1, Root: -1},
		el(api.Box, 0, 6, 7), el(api.Dialog, 0, 8), el(api.Dialog, 0, 10), el(api.Box, 0, 11), el(api.Box, 0, 13, 15),
		{Kind: api.Text, Parent: 1, Host: -1, Root: -1}, el(api.Button, 1), el(api.Box, 2, 9), el(api.Link, 8), el(api.Box, 3),
		el(api.Dialog, 4, 12), el(api.Button, 11), el(api.Box, 5, 14), el(api.Button, 13), el(api.Dialog, 5),
	}
	t = over(t, 5, 17, 20)
	t = append(t, el(api.Dialog, 16, 18), el(api.Slot, 17, 19), el(api.Box, 18), el(api.Box, 16))
	t = append(t, el(api.Dialog, -1, 22), el(api.Box, 21), el(api.Box, -1))
	for n, value := range map[int]int{3: api.Auto, 4: api.Hint, 9: api.Hand, 23: api.Auto} {
		t = with(t, n, api.Popover, value)
	}
	return with(t, 15, api.Name, 5)
}

// shown takes nodes and invokers by turns.
func shown(numbers ...int) []api.Shown {
	var l []api.Shown
	for i := 0; i < len(numbers); i += 2 {
		l = append(l, api.Shown{Node: numbers[i], Invoker: numbers[i+1]})
	}
	return l
}

// many is the sample, of which all Elements can be focused that stand where one can be.
func many() api.Tree {
	t := sample()
	for n, x := range t {
		if x.Kind == api.Element {
			t = with(t, n, api.TabIndex, n%3-1)
		}
	}
	return t
}

// busy is a view of such a sample in which much is open.
func busy() api.View {
	return api.View{Tree: with(many(), 14, api.Inert, 0), Open: []int{2, 15}, Modal: []int{3, 17}, Popups: shown(9, 7, 4, -1), Top: []int{9, 3, 4, 17}}
}

// outside: numbers that are no nodes of a tree of that length.
func outside(length int) []int {
	return []int{-1, -2, length, length + 1, api.MaxNodes, math.MinInt, math.MaxInt}
}

// spoiled: views that may not be, by their tree, or by what is open in it.
func spoiled(t *testing.T) map[string]api.View {
	long := sample()
	for len(long) <= api.MaxNodes {
		long = append(long, el(api.Box, -1))
	}
	all := map[string]api.View{"nothing": {}, "no nodes": {Tree: api.Tree{}}, "too long": {Tree: long}}
	for name, spoil := range map[string]func(v *api.View){
		"a loop":                      func(v *api.View) { v.Tree[21].Parent, v.Tree[22].Kids = 22, []int{21} },
		"a loop by a host":            func(v *api.View) { v.Tree[5].Parent, v.Tree[20].Kids, v.Tree[0].Kids = 20, []int{5}, []int{1, 2, 3, 4} },
		"a kid far away":              func(v *api.View) { v.Tree[0].Kids = append(v.Tree[0].Kids, math.MaxInt) },
		"a root far away":             func(v *api.View) { v.Tree[1].Root = math.MaxInt },
		"a dialog's tag":              func(v *api.View) { v.Tree[6].Tag = api.Dialog },
		"a text that is hidden":       func(v *api.View) { v.Tree[6].Attrs = []api.Attr{{Name: api.Hidden}} },
		"a document that is hidden":   func(v *api.View) { v.Tree[0].Attrs = []api.Attr{{Name: api.Hidden}} },
		"a document that is inert":    func(v *api.View) { v.Tree[0].Attrs = []api.Attr{{Name: api.Inert}} },
		"open, no dialog":             func(v *api.View) { v.Open = append(v.Open, 1) },
		"open, no node":               func(v *api.View) { v.Open = append(v.Open, math.MaxInt) },
		"open, not connected":         func(v *api.View) { v.Open = append(v.Open, 21) },
		"open twice":                  func(v *api.View) { v.Open = append(v.Open, 2) },
		"open and modal":              func(v *api.View) { v.Open = append(v.Open, 17) },
		"modal, not in the top layer": func(v *api.View) { v.Modal = append(v.Modal, 11) },
		"modal, no node":              func(v *api.View) { v.Modal, v.Top = append(v.Modal, -1), append(v.Top, -1) },
		"shown, no popup":             func(v *api.View) { v.Popups, v.Top = append(v.Popups, shown(1, -1)...), append(v.Top, 1) },
		"shown, not in the top layer": func(v *api.View) { v.Top = []int{9, 3, 17} },
		"shown by no node":            func(v *api.View) { v.Popups[0].Invoker = 99 },
		"a top layer with one more":   func(v *api.View) { v.Top = append(v.Top, 2) },
	} {
		v := busy()
		spoil(&v)
		all[name] = v
	}
	for name, v := range all {
		if top.Check(v) == api.OK {
			t.Fatalf("%s: a view that may be", name)
		}
	}
	return all
}

// grow makes a tree of which nearly all is connected, with many shadows, slots, dialogs and popups, and with numbers.
func grow(r *rand.Rand, nodes int) api.Tree {
	x := tree.New()
	for len(x) < nodes {
		x = more(r, x)
	}
	return x
}

func more(r *rand.Rand, x api.Tree) api.Tree {
	at := connected(r, x)
	if y, _, e := tree.Attach(x, at); e == api.OK && r.Intn(5) == 0 {
		return y
	}
	tags := []int{api.Box, api.Button, api.Button, api.Link, api.Dialog, api.Slot}
	x, n, _ := tree.Make(x, api.Element, tags[r.Intn(len(tags))])
	if r.Intn(20) != 0 {
		x, _ = tree.Insert(x, tree.Place{Parent: at, Child: n, Before: -1})
	}
	for name, value := range []int{api.TabIndex: r.Intn(5) - 1, api.Name: r.Intn(2), api.Popover: 1 + r.Intn(3)} {
		if value != 0 && r.Intn(5) < 2 {
			x, _ = attr.Set(x, n, api.Attr{Name: name, Value: value})
		}
	}
	if r.Intn(6) == 0 {
		x, _ = attr.Set(x, []int{n, x[at].Root}[r.Intn(2)], api.Attr{Name: []int{api.Disabled, api.Hidden, api.Inert, api.Delegates}[r.Intn(4)]})
	}
	return x
}

// connected: somebody whose kids can be dialogs and popups.
func connected(r *rand.Rand, x api.Tree) int {
	l := shade.List(x, 0)
	return l[r.Intn(len(l))]
}

// anyView opens nearly all that can be open, in any order; one in four has modal dialogs.
func anyView(r *rand.Rand, x api.Tree) api.View {
	v := api.View{Tree: x}
	modal := r.Intn(4) == 0
	for _, n := range r.Perm(len(x)) {
		w, e := top.Popup(v, api.Shown{Node: n, Invoker: invoker(r, v)})
		if e != api.OK || x[n].Tag == api.Dialog && r.Intn(3) != 0 {
			w, e = top.Dialog(v, n, modal && r.Intn(2) == 0)
		}
		if e == api.OK && r.Intn(6) != 0 {
			v = w
		}
	}
	return v
}

// invoker is mostly somebody at whom a popup can be reached.
func invoker(r *rand.Rand, v api.View) int {
	if l := area.All(v); len(l) > 0 && r.Intn(4) != 0 {
		return l[r.Intn(len(l))]
	}
	return r.Intn(len(v.Tree)+1) - 1
}

// same takes a list that is nil and one that is empty as one.
func same(a api.View, b api.View) bool {
	return reflect.DeepEqual(tree.Copy(a.Tree), tree.Copy(b.Tree)) && slices.Equal(a.Open, b.Open) && slices.Equal(a.Modal, b.Modal) && slices.Equal(a.Popups, b.Popups) && slices.Equal(a.Top, b.Top)
}
