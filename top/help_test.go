package top_test

import (
	"math"
	"math/rand"
	"slices"
	"testing"

	"limelight/api"
	"limelight/attr"
	"limelight/shade"
	"limelight/tree"
)

func el(tag int, parent int, kids ...int) api.Node {
	return api.Node{Kind: api.Element, Tag: tag, Parent: parent, Kids: kids, Host: -1, Root: -1}
}

// over lays a Shadow, the next node, over a host.
func over(t api.Tree, host int, kids ...int) api.Tree {
	t[host].Root = len(t)
	return append(t, api.Node{Kind: api.Shadow, Parent: -1, Kids: kids, Host: host, Root: -1})
}

func with(t api.Tree, n int, name int, value int) api.Tree {
	t, e := attr.Set(t, n, api.Attr{Name: name, Value: value})
	if e != api.OK {
		panic("the sample may not be")
	}
	return t
}

// sample: 0 has the dialogs 1 and 2; the popups 3 (Auto), 4 (Hint) and 5 (Hand); 6, a dialog and a popup; 7, a Box; 8, a Text; and the host 9.
// 1 has the dialog 10, and that the popup 11. 9's Shadow 12 has the dialog 13 and the popup 14; 9's kid 15 is a dialog that no slot shows.
// Not connected: the dialog 16; the popup 17; and the host 18, whose Shadow 19 has the dialog 20 and the popup 21.
func sample() api.Tree {
	t := api.Tree{
		{Kind: api.Document, Parent: -1, Kids: []int{1, 2, 3, 4, 5, 6, 7, 8, 9}, Host: -1, Root: -1},
		el(api.Dialog, 0, 10), el(api.Dialog, 0), el(api.Box, 0), el(api.Button, 0), el(api.Slot, 0), el(api.Dialog, 0), el(api.Box, 0),
		{Kind: api.Text, Parent: 0, Host: -1, Root: -1}, el(api.Box, 0, 15), el(api.Dialog, 1, 11), el(api.Link, 10),
	}
	t = over(t, 9, 13, 14)
	t = append(t, el(api.Dialog, 12), el(api.Box, 12), el(api.Dialog, 9), el(api.Dialog, -1), el(api.Box, -1), el(api.Box, -1))
	t = over(t, 18, 20, 21)
	t = append(t, el(api.Dialog, 19), el(api.Box, 19))
	for n, value := range map[int]int{3: api.Auto, 4: api.Hint, 5: api.Hand, 6: api.Auto, 11: api.Auto, 14: api.Hint, 17: api.Auto, 21: api.Hand} {
		t = with(t, n, api.Popover, value)
	}
	return t
}

// dialogs, popups and neither: what the nodes of the sample can be.
func dialogs() []int { return []int{1, 2, 6, 10, 13, 15} }
func popups() []int  { return []int{3, 4, 5, 6, 11, 14} }

// shown takes nodes and invokers by turns.
func shown(numbers ...int) []api.Shown {
	var l []api.Shown
	for i := 0; i < len(numbers); i += 2 {
		l = append(l, api.Shown{Node: numbers[i], Invoker: numbers[i+1]})
	}
	return l
}

// busy is a view of the sample in which much is open.
func busy() api.View {
	return api.View{Tree: sample(), Open: []int{2, 13}, Modal: []int{10, 1}, Popups: shown(14, 9, 3, -1), Top: []int{14, 1, 3, 10}}
}

// outside: numbers that are no nodes of a tree of that length.
func outside(length int) []int {
	return []int{-1, -2, length, length + 1, api.MaxNodes, math.MinInt, math.MaxInt}
}

// spoiled: trees that may not be.
func spoiled(t *testing.T) map[string]api.Tree {
	long := sample()
	for len(long) <= api.MaxNodes {
		long = append(long, el(api.Box, -1))
	}
	all := map[string]api.Tree{"nil": nil, "empty": {}, "too long": long}
	for name, spoil := range map[string]func(x api.Tree){
		"a loop":            func(x api.Tree) { x[18].Parent, x[21].Kids = 21, []int{18} },
		"a parent far away": func(x api.Tree) { x[7].Parent = math.MaxInt },
		"a kid far away":    func(x api.Tree) { x[0].Kids = append(x[0].Kids, math.MaxInt) },
		"a root far away":   func(x api.Tree) { x[1].Root = math.MaxInt },
		"a host far away":   func(x api.Tree) { x[12].Host = math.MaxInt },
		"a dialog's tag":    func(x api.Tree) { x[8].Tag = api.Dialog },
		"a popover too far": func(x api.Tree) { x[3].Attrs = []api.Attr{{Name: api.Popover, Value: 4}} },
		"a text's popover":  func(x api.Tree) { x[8].Attrs = []api.Attr{{Name: api.Popover, Value: 1}} },
	} {
		x := sample()
		spoil(x)
		all[name] = x
	}
	for name, x := range all {
		if tree.Check(x) != api.ErrArg {
			t.Fatalf("%s: a tree that may be", name)
		}
	}
	return all
}

// grow does some calls with numbers that are mostly right, so that there are many dialogs and popups, some of them in shadows.
func grow(r *rand.Rand, calls int) api.Tree {
	x := tree.New()
	for range calls {
		x = change(r, x)
	}
	return x
}

func change(r *rand.Rand, x api.Tree) api.Tree {
	n := func() int { return r.Intn(len(x)+1) - r.Intn(2) }
	switch r.Intn(14) {
	case 0, 1:
		x, _, _ = tree.Make(x, api.Element, r.Intn(5))
	case 2:
		x, _, _ = tree.Make(x, api.Element, api.Dialog)
	case 3:
		x, _, _ = tree.Make(x, api.Text, 0)
	case 4:
		x, _, _ = tree.Attach(x, n())
	case 5, 6:
		x, _ = attr.Set(x, n(), api.Attr{Name: api.Popover, Value: 1 + r.Intn(3)})
	case 7:
		x, _ = attr.Drop(x, n(), api.Popover)
	case 8:
		x, _ = tree.Remove(x, n())
	default:
		p := tree.Place{Parent: n(), Child: n(), Before: -1}
		if r.Intn(2) == 0 {
			p.Parent = connected(r, x)
		}
		x, _ = tree.Insert(x, p)
	}
	return x
}

// connected: somebody whose kids can be dialogs and popups.
func connected(r *rand.Rand, x api.Tree) int {
	l := shade.List(x, 0)
	return l[r.Intn(len(l))]
}

// canBeDialog and canBePopup say the chapter's words again.
func canBeDialog(x api.Tree, n int) bool {
	return n >= 0 && n < len(x) && x[n].Kind == api.Element && x[n].Tag == api.Dialog && shade.Connected(x, n)
}

func canBePopup(x api.Tree, n int) bool {
	return n >= 0 && n < len(x) && x[n].Kind == api.Element && attr.Has(x, n, api.Popover) && shade.Connected(x, n)
}

// mayBe says the chapter's words again, of views whose tree may be.
func mayBe(v api.View) bool {
	counts := map[int]int{}
	must := map[int]int{}
	for _, n := range slices.Concat(v.Open, v.Modal) {
		counts[n]++
		if !canBeDialog(v.Tree, n) {
			return false
		}
	}
	for _, n := range v.Modal {
		must[n] = 1
	}
	for _, p := range v.Popups {
		counts[p.Node]++
		must[p.Node] = 1
		if !canBePopup(v.Tree, p.Node) || p.Invoker < -1 || p.Invoker >= len(v.Tree) {
			return false
		}
	}
	for _, count := range counts {
		if count > 1 {
			return false
		}
	}
	for _, n := range v.Top {
		if must[n] != 1 {
			return false
		}
		must[n] = 2
	}
	for _, state := range must {
		if state != 2 {
			return false
		}
	}
	return true
}
