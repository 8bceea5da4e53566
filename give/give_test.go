package give_test

import (
	"math/rand"
	"slices"
	"testing"

	"limelight/api"
	"limelight/area"
	"limelight/attr"
	"limelight/give"
	"limelight/order"
	"limelight/top"
	"limelight/tree"
)

// told holds the answers of all nodes against those that are wanted: -1 of whom is not named.
func told(t *testing.T, name string, call func(api.View, int) int, v api.View, want map[int]int) {
	t.Helper()
	if top.Check(v) != api.OK {
		t.Fatalf("%s: a view that may not be", name)
	}
	for n := range v.Tree {
		to, is := want[n]
		if !is {
			to = -1
		}
		if got := call(v, n); got != to {
			t.Errorf("%s: of %d: %d, not %d", name, n, got, to)
		}
	}
}

func TestArea(t *testing.T) {
	x := stage()
	told(t, "P14.1: closed", give.Area, api.View{Tree: x}, map[int]int{3: 18, 9: 9, 10: 10, 11: 11, 14: 18, 16: 16, 18: 18, 19: 19})
	all := map[int]int{3: 18, 4: 4, 6: 6, 8: 8, 9: 9, 10: 10, 11: 11, 14: 18, 16: 16, 18: 18, 19: 19}
	told(t, "P14.1: open", give.Area, open(x), all)
	told(t, "P14.1: modal", give.Area, api.View{Tree: x, Modal: []int{1}, Top: []int{1}}, map[int]int{4: 4, 6: 6, 8: 8})
	// Who can be focused is told himself, whatever stands below him; who can't is not told for what stands below.
	told(t, "P14.1: marks", give.Area, open(auto(x, 1, 2, 5, 6, 9, 10, 11)), all)
	y := with(with(x, 2, api.TabIndex, 0), 1, api.TabIndex, -3)
	told(t, "P14.1: boxes", give.Area, open(auto(y, 6, 10)), map[int]int{1: 1, 2: 2, 3: 18, 4: 4, 6: 6, 8: 8, 9: 9, 10: 10, 11: 11, 14: 18, 16: 16, 18: 18, 19: 19})
	// A host that delegates hands on, even with a number of its own, or disabled.
	y = with(with(x, 3, api.TabIndex, 2), 14, api.TabIndex, 0)
	told(t, "P14.1: hosts with numbers", give.Area, open(y), all)
	y[14].Tag = api.Button
	told(t, "P14.1: a host that is disabled", give.Area, open(with(y, 14, api.Disabled, 0)), all)
	// One that does not is told himself, or not at all.
	y, _ = attr.Drop(with(x, 14, api.TabIndex, -1), 17, api.Delegates)
	told(t, "P14.1: a host that can be focused", give.Area, api.View{Tree: y}, map[int]int{3: 14, 9: 9, 10: 10, 11: 11, 14: 14, 16: 16, 18: 18, 19: 19})
	y, _ = attr.Drop(y, 14, api.TabIndex)
	told(t, "P14.1: a host that can't", give.Area, api.View{Tree: y}, map[int]int{3: 16, 9: 9, 10: 10, 11: 11, 16: 16, 18: 18, 19: 19})
	// Disabled, hidden, inert: nobody.
	y = with(with(with(x, 10, api.Disabled, 0), 9, api.Hidden, 0), 3, api.Inert, 0)
	told(t, "P14.1: none of these", give.Area, api.View{Tree: y}, nil)
	told(t, "P14.1: a hidden shadow's part", give.Area, api.View{Tree: with(x, 13, api.Hidden, 0)}, map[int]int{3: 16, 9: 9, 10: 10, 11: 11, 16: 16})
}

func TestFirst(t *testing.T) {
	x := stage()
	told(t, "P14.2: no marks", give.First, open(x), nil)
	// Who is marked himself is told, but nobody above a shadow is told of a mark in it.
	told(t, "P14.2: one", give.First, open(auto(x, 10)), map[int]int{0: 10, 2: 10, 10: 10})
	told(t, "P14.2: one in a shadow", give.First, open(auto(x, 16)), map[int]int{12: 16, 16: 16})
	told(t, "P14.2: one further in", give.First, open(auto(x, 19)), map[int]int{17: 19, 19: 19})
	told(t, "P14.2: a host's kid", give.First, open(auto(x, 11)), map[int]int{0: 11, 3: 11, 11: 11})
	// The first one in the tree's order, not by TabIndex, nor by number; -1 is as good as any.
	told(t, "P14.2: some", give.First, open(auto(x, 8, 6, 10)), map[int]int{0: 6, 1: 6, 2: 10, 5: 6, 6: 6, 8: 8, 10: 10})
	told(t, "P14.2: one of -1", give.First, open(auto(x, 4, 8)), map[int]int{0: 4, 1: 4, 4: 4, 8: 8})
	y, _ := tree.Insert(with(auto(x, 6, 8), 6, api.TabIndex, 5), tree.Place{Parent: 1, Child: 8, Before: 4})
	told(t, "P14.2: the order", give.First, open(y), map[int]int{0: 8, 1: 8, 5: 6, 6: 6, 8: 8})
	// Marks on those who can't be focused, and can't hand on, do not count.
	told(t, "P14.2: boxes", give.First, open(auto(x, 1, 2, 5, 10)), map[int]int{0: 10, 2: 10, 10: 10})
	told(t, "P14.2: closed", give.First, api.View{Tree: auto(x, 6, 8, 10)}, map[int]int{0: 10, 2: 10, 10: 10})
	told(t, "P14.2: disabled", give.First, open(with(auto(x, 6, 8), 6, api.Disabled, 0)), map[int]int{0: 8, 1: 8, 8: 8})
	told(t, "P14.2: nobody", give.First, api.View{Tree: auto(x, 1, 2, 4, 5, 6, 8, 13, 15)}, nil)
	// A host with a mark is told as its Area is: also of itself.
	told(t, "P14.2: hosts", give.First, open(auto(x, 3)), map[int]int{0: 18, 3: 18})
	told(t, "P14.2: a host in a host", give.First, open(auto(x, 14)), map[int]int{12: 18, 13: 18, 14: 18})
	told(t, "P14.2: a host, and its kid", give.First, open(auto(x, 3, 11, 16, 19)), map[int]int{0: 16, 3: 16, 11: 11, 12: 16, 16: 16, 17: 19, 19: 19})
	// A host that hands on to nobody is passed over.
	y = with(auto(x, 3, 11), 12, api.Manual, 0)
	y = with(with(with(y, 13, api.Hidden, 0), 16, api.Disabled, 0), 11, api.SlotAt, 15)
	told(t, "P14.2: an empty host", give.First, open(y), map[int]int{0: 11, 3: 11, 11: 11})
}

func TestDelegate(t *testing.T) {
	x := stage()
	below := map[int]int{0: 4, 1: 6, 2: 9, 3: 18, 5: 6, 12: 18, 13: 18, 14: 18, 17: 18}
	told(t, "P14.3: open", give.Delegate, open(x), below)
	told(t, "P14.3: modal", give.Delegate, api.View{Tree: x, Modal: []int{1}, Top: []int{1}}, map[int]int{0: 4, 1: 6, 5: 6})
	told(t, "P14.3: closed", give.Delegate, api.View{Tree: x}, map[int]int{0: 9, 2: 9, 3: 18, 12: 18, 13: 18, 14: 18, 17: 18})
	// Marks come first, in the same tree; of himself only who is marked himself is told.
	told(t, "P14.3: marks", give.Delegate, open(auto(x, 8, 10)), map[int]int{0: 8, 1: 8, 2: 10, 3: 18, 5: 6, 8: 8, 10: 10, 12: 18, 13: 18, 14: 18, 17: 18})
	told(t, "P14.3: a mark on -1", give.Delegate, open(auto(x, 4)), map[int]int{0: 4, 1: 4, 2: 9, 3: 18, 4: 4, 5: 6, 12: 18, 13: 18, 14: 18, 17: 18})
	told(t, "P14.3: a mark in a shadow", give.Delegate, open(auto(x, 16)), map[int]int{0: 4, 1: 6, 2: 9, 3: 16, 5: 6, 12: 16, 13: 18, 14: 18, 16: 16, 17: 18})
	told(t, "P14.3: a mark further in", give.Delegate, open(auto(x, 19)), map[int]int{0: 4, 1: 6, 2: 9, 3: 19, 5: 6, 12: 19, 13: 19, 14: 19, 17: 19, 19: 19})
	told(t, "P14.3: a mark on a host's kid", give.Delegate, open(auto(x, 11)), map[int]int{0: 11, 1: 6, 2: 9, 3: 18, 5: 6, 11: 11, 12: 18, 13: 18, 14: 18, 17: 18})
	told(t, "P14.3: a mark on nobody", give.Delegate, open(auto(x, 1, 2, 5)), below)
}

// TestDialogs: a dialog takes nobody whom the tab key does not reach, unless by a mark, or by a host.
func TestDialogs(t *testing.T) {
	x := stage()
	for _, n := range []int{6, 8} {
		x = with(x, n, api.TabIndex, -1)
	}
	if to := give.Delegate(open(x), 1); to != -1 {
		t.Errorf("P14.3: all of -1: %d", to)
	}
	if to := give.Delegate(open(x), 5); to != 6 {
		t.Errorf("P14.3: a Box in the dialog: %d", to)
	}
	if to := give.Delegate(open(x), 0); to != 4 {
		t.Errorf("P14.3: above the dialog: %d", to)
	}
	y, _ := tree.Insert(x, tree.Place{Parent: 1, Child: 3, Before: -1})
	if to := give.Delegate(open(y), 1); to != 18 {
		t.Errorf("P14.3: a host in the dialog: %d", to)
	}
	y, _ = tree.Insert(x, tree.Place{Parent: 1, Child: 2, Before: -1})
	if to := give.Delegate(open(y), 1); to != 10 {
		t.Errorf("P14.3: a Box with a button in the dialog: %d", to)
	}
	// A dialog that is a host itself: the same in its shadow.
	y = append(over(x, 1, 21, 22), el(api.Button, 20), el(api.Button, 20))
	if to := give.Delegate(open(y), 1); to != -1 {
		t.Errorf("P14.3: a host that does not delegate: %d", to)
	}
	y = with(with(y, 20, api.Delegates, 0), 21, api.TabIndex, -1)
	if to := give.Delegate(open(y), 1); to != 22 {
		t.Errorf("P14.3: a dialog that delegates: %d", to)
	}
	if to := give.Delegate(open(y), 20); to != 21 {
		t.Errorf("P14.3: its shadow is no dialog: %d", to)
	}
	if to := give.Delegate(open(y), 0); to != 22 {
		t.Errorf("P14.3: above it: %d", to)
	}
	// A dialog in a dialog can be focused itself, if it has a number.
	y = inDialog(x, api.Dialog)
	v := api.View{Tree: with(y, 20, api.TabIndex, 0), Open: []int{1, 20}}
	if to := give.Delegate(v, 1); to != 20 {
		t.Errorf("P14.3: a dialog in the dialog: %d", to)
	}
}

// inDialog lays one more Element, 20, into the dialog 1, behind all.
func inDialog(x api.Tree, tag int) api.Tree {
	x, n, _ := tree.Make(x, api.Element, tag)
	x, _ = tree.Insert(x, tree.Place{Parent: 1, Child: n, Before: -1})
	return x
}

func TestHosts(t *testing.T) {
	x := stage()
	// One that does not delegate tells nobody, whatever is marked; its kids are its parent's all the same.
	y, _ := attr.Drop(auto(x, 3, 11, 16), 12, api.Delegates)
	told(t, "P14.3: a host that does not", give.Delegate, open(y), map[int]int{0: 11, 1: 6, 2: 9, 5: 6, 11: 11, 12: 16, 13: 18, 14: 18, 16: 16, 17: 18})
	y, _ = attr.Drop(x, 17, api.Delegates)
	told(t, "P14.3: a host in one that does", give.Delegate, open(y), map[int]int{0: 4, 1: 6, 2: 9, 3: 16, 5: 6, 12: 16, 17: 18})
	// A host of which nobody takes it: the next one; and that may be its own kid.
	y = with(with(x, 13, api.Hidden, 0), 16, api.Disabled, 0)
	y = with(y, 2, api.Hidden, 0)
	told(t, "P14.3: an empty host", give.Delegate, api.View{Tree: y}, map[int]int{0: 11})
	// A host that can be focused, and does not delegate, takes it itself.
	y, _ = attr.Drop(with(x, 14, api.TabIndex, 0), 17, api.Delegates)
	told(t, "P14.3: a host that takes it", give.Delegate, open(y), map[int]int{0: 4, 1: 6, 2: 9, 3: 14, 5: 6, 12: 14, 13: 14, 17: 18})
	// What hosts take stands in the order of their kids.
	y, _ = tree.Insert(x, tree.Place{Parent: 12, Child: 16, Before: 13})
	told(t, "P14.3: the order", give.Delegate, api.View{Tree: y}, map[int]int{0: 9, 2: 9, 3: 16, 12: 16, 13: 18, 14: 18, 17: 18})
}

// TestExample: the chapter's one.
func TestExample(t *testing.T) {
	x := api.Tree{{Kind: api.Document, Parent: -1, Kids: []int{1}, Host: -1, Root: -1}, el(api.Dialog, 0, 2, 3), el(api.Button, 1), el(api.Button, 1)}
	if to := give.Delegate(open(auto(x, 3)), 1); to != 3 {
		t.Errorf("P14.3: %d", to)
	}
	if to := give.Delegate(open(x), 1); to != 2 {
		t.Errorf("P14.3: without it: %d", to)
	}
}

// hosts: as many hosts as can be, each in the shadow of the one before, all with Autofocus, and a button in the last one's.
func hosts() api.Tree {
	x := tree.New()
	at := 0
	for len(x) < api.MaxNodes-1 {
		x, _, _ = tree.Make(x, api.Element, api.Box)
		n := len(x) - 1
		x, _ = tree.Insert(x, tree.Place{Parent: at, Child: n, Before: -1})
		x, at, _ = tree.Attach(auto(x, n), n)
		x = with(x, at, api.Delegates, 0)
	}
	x, _, _ = tree.Make(x, api.Element, api.Button)
	x, _ = tree.Insert(x, tree.Place{Parent: at, Child: len(x) - 1, Before: -1})
	return x
}

// TestDeep: each host is come to by its mark, and in its turn: if each asked anew, it would not end in a lifetime.
func TestDeep(t *testing.T) {
	x := hosts()
	last := len(x) - 1
	if len(x) != api.MaxNodes {
		t.Fatalf("%d nodes", len(x))
	}
	for n := range last {
		to := last
		if v := (api.View{Tree: x}); give.Delegate(v, n) != to || give.First(v, n) != to && n != last-1 {
			t.Errorf("P14.3: of %d: %d, %d", n, give.Delegate(v, n), give.First(v, n))
		}
		v := api.View{Tree: with(auto(x, last), last, api.Disabled, 0)}
		if give.Delegate(v, n) != -1 || give.First(v, n) != -1 || give.Area(v, n) != -1 {
			t.Errorf("R1: of %d: not nobody", n)
		}
	}
}

func TestWrong(t *testing.T) {
	for name, v := range spoiled(t) {
		for _, n := range append(outside(len(v.Tree)), 0, 1, 2, 7, 12, 16) {
			toldNobody(t, name, v, n)
		}
	}
	full := auto(stage(), 4, 6, 8, 9, 10, 11, 16, 18, 19)
	for _, v := range []api.View{open(full), busy(), {Tree: tree.New()}} {
		for _, n := range outside(len(v.Tree)) {
			toldNobody(t, "no node", v, n)
		}
	}
	toldNobody(t, "a document alone", api.View{Tree: tree.New()}, 0)
	toldNobody(t, "not a dialog", api.View{Tree: full, Open: []int{2}}, 10)
	toldNobody(t, "not in the top layer", api.View{Tree: full, Modal: []int{1}}, 6)
}

func toldNobody(t *testing.T, name string, v api.View, n int) {
	t.Helper()
	if a, d, f := give.Area(v, n), give.Delegate(v, n), give.First(v, n); a != -1 || d != -1 || f != -1 {
		t.Errorf("P14.1: %s: %d: %d, %d, %d", name, n, a, d, f)
	}
}

// areaOf, firstOf and delegateOf say the words of P14.1 to P14.3 again.
func areaOf(v api.View, n int) int {
	switch {
	case area.Is(v, n):
		return n
	case area.Delegates(v.Tree, n):
		return delegateOf(v, n)
	}
	return -1
}

func firstOf(v api.View, n int) int {
	for _, x := range order.List(v.Tree, n) {
		if attr.Has(v.Tree, x, api.Autofocus) && areaOf(v, x) != -1 {
			return areaOf(v, x)
		}
	}
	return -1
}

func delegateOf(v api.View, n int) int {
	where := n
	if v.Tree[n].Root != -1 {
		where = v.Tree[n].Root
		if !area.Delegates(v.Tree, n) {
			return -1
		}
	}
	if to := firstOf(v, where); to != -1 {
		return to
	}
	for _, x := range order.List(v.Tree, where)[1:] {
		to := -1
		switch {
		case area.Tabs(v, x), v.Tree[n].Tag != api.Dialog && area.Is(v, x):
			to = x
		case area.Delegates(v.Tree, x):
			to = delegateOf(v, x)
		}
		if to != -1 {
			return to
		}
	}
	return -1
}

func TestAgainstTheWords(t *testing.T) {
	r := rand.New(rand.NewSource(14))
	itself, handed, marked, ofDialogs, furtherIn := 0, 0, 0, 0, 0
	for range 500 {
		v := anyView(r, grow(r, r.Intn(250)))
		if r.Intn(2) == 0 {
			v = withoutModal(v)
		}
		kept := top.Copy(v)
		for n := range v.Tree {
			a, d, f := give.Area(v, n), give.Delegate(v, n), give.First(v, n)
			if a != areaOf(v, n) || d != delegateOf(v, n) || f != firstOf(v, n) {
				t.Fatalf("P14.1 to P14.3: of %d: %d, %d, %d, not %d, %d, %d: %+v", n, a, d, f, areaOf(v, n), delegateOf(v, n), firstOf(v, n), v)
			}
			for _, to := range []int{a, d, f} {
				if to != -1 && !area.Is(v, to) {
					t.Fatalf("P14.4: of %d: %d: %+v", n, to, v)
				}
			}
			switch {
			case a == n:
				itself++
			case a != -1:
				handed++
			}
			if f != -1 {
				marked++
			}
			if d != -1 && v.Tree[n].Tag == api.Dialog {
				ofDialogs++
			}
			if d != -1 && order.Top(v.Tree, d) != order.Top(v.Tree, n) && v.Tree[n].Root == -1 {
				furtherIn++
			}
		}
		if !same(v, kept) {
			t.Fatal("R5: the view is changed")
		}
	}
	if itself < 500 || handed < 50 || marked < 300 || ofDialogs < 20 || furtherIn < 50 {
		t.Fatalf("too few: %d themselves, %d by a host, %d by a mark, %d of dialogs, %d further in", itself, handed, marked, ofDialogs, furtherIn)
	}
}

func withoutModal(v api.View) api.View {
	for _, n := range slices.Clone(v.Modal) {
		v, _ = top.Close(v, n)
	}
	return v
}

// TestAgain: nothing is kept from call to call: what is open now counts alone.
func TestAgain(t *testing.T) {
	x := stage()
	for range 3 {
		if a, b, c := give.Delegate(open(x), 0), give.Delegate(api.View{Tree: x}, 0), give.Delegate(open(auto(x, 16)), 3); a != 4 || b != 9 || c != 16 {
			t.Errorf("R6: %d, %d, %d", a, b, c)
		}
	}
}
