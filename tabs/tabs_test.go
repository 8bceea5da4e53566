package tabs_test

import (
	"math/rand"
	"slices"
	"testing"

	"limelight/api"
	"limelight/area"
	"limelight/attr"
	"limelight/flat"
	"limelight/scopes"
	"limelight/tabs"
	"limelight/top"
	"limelight/tree"
)

// tells asks for the List, and, both ways, for whom it is followed by.
func tells(t *testing.T, name string, v api.View, want ...int) {
	t.Helper()
	if top.Check(v) != api.OK {
		t.Fatalf("%s: a view that may not be", name)
	}
	if l := tabs.List(v); !slices.Equal(l, want) {
		t.Errorf("P17.1: %s: %v, not %v", name, l, want)
	}
	round := slices.Concat([]int{0}, want, []int{0})
	for i, n := range round[1:] {
		goes(t, name, v, round[i], n, false)
		goes(t, name, v, n, round[i], true)
	}
}

func goes(t *testing.T, name string, v api.View, from int, to int, back bool) {
	t.Helper()
	if n := tabs.Next(v, from, back); n != to {
		t.Errorf("P17.2: %s: Next of %d, back %t: %d, not %d", name, from, back, n, to)
	}
}

// open is a view without modal dialogs; the top layer stands the other way round than the popups, as that does not count.
func open(x api.Tree, dialogs []int, popups ...int) api.View {
	v := api.View{Tree: x, Open: dialogs, Popups: shown(popups...)}
	for _, p := range slices.Backward(v.Popups) {
		v.Top = append(v.Top, p.Node)
	}
	return v
}

func modal(v api.View, n int) api.View {
	v.Modal, v.Top = append(v.Modal, n), append(v.Top, n)
	return v
}

// TestScopes: of many, the TabIndex of n is n%3-1.
func TestScopes(t *testing.T) {
	x := many()
	tells(t, "nothing open", open(x, nil), 5, 20, 1, 7)
	tells(t, "a dialog", open(x, []int{2}), 2, 8, 5, 20, 1, 7)
	tells(t, "a slot below 0", open(x, []int{17}), 5, 17, 20, 1, 7)
	y := with(x, 18, api.TabIndex, 1)
	tells(t, "a slot", open(y, []int{17}), 5, 17, 18, 14, 13, 20, 1, 7)
	tells(t, "a slot in a closed dialog", open(y, nil), 5, 20, 1, 7)
	tells(t, "a slot that can't be focused", open(without(x, 18, api.TabIndex), []int{17}), 5, 17, 20, 14, 13, 1, 7)
	tells(t, "a host below 0", open(with(y, 5, api.TabIndex, -1), []int{17}), 1, 7)
	tells(t, "a host that can't be focused", open(without(y, 5, api.TabIndex), []int{17}), 1, 7, 17, 18, 14, 13, 20)
	tells(t, "a host that is hidden", open(with(y, 5, api.Hidden, 0), []int{17}), 1, 7)
	tells(t, "a host that is inert", open(with(y, 5, api.Inert, 0), []int{17}), 1, 7)
	tells(t, "a host that delegates", open(with(y, 16, api.Delegates, 0), []int{17}), 17, 18, 14, 13, 20, 1, 7)
	tells(t, "a button that is disabled", open(with(x, 7, api.Disabled, 0), nil), 5, 20, 1)
	tells(t, "a host that is disabled", open(with(over(y, 7), 7, api.Disabled, 0), nil), 5, 20, 1)
	tells(t, "another number in a shadow", open(with(x, 20, api.TabIndex, 9), nil), 5, 20, 1, 7)
	tells(t, "another number of a host", open(with(x, 5, api.TabIndex, 0), nil), 1, 7, 5, 20)
	tells(t, "no numbers", open(sample(), []int{2, 17}), 7, 14)
	tells(t, "nobody", open(with(with(sample(), 7, api.Inert, 0), 14, api.TabIndex, -1), nil))
}

// TestModal: what a modal dialog blocks is not reached, but what is reached by it is.
func TestModal(t *testing.T) {
	x := many()
	tells(t, "a modal one", modal(open(x, nil), 2), 2, 8)
	tells(t, "two", modal(modal(open(x, nil), 2), 17), 17)
	tells(t, "two, the other way round", modal(modal(open(x, nil), 17), 2), 2, 8)
	tells(t, "in a shadow", modal(open(x, nil), 17), 17)
	tells(t, "in a shadow, with a slot", modal(open(with(x, 18, api.TabIndex, 1), nil), 17), 17, 18, 14, 13)
	tells(t, "in a shadow of a host below 0", modal(open(with(x, 5, api.TabIndex, -1), nil), 17))
	tells(t, "a popup outside", modal(open(x, []int{11}, 4, 8), 2), 2, 8)
	tells(t, "a popup inside", modal(open(with(x, 9, api.TabIndex, 0), nil, 9, 8), 2), 2, 8, 9)
	tells(t, "a popup inside, invoked outside", modal(open(with(x, 9, api.TabIndex, 0), nil, 9, 7), 2), 2, 8)
	tells(t, "a popup inside, invoked by a host outside", modal(open(with(x, 9, api.TabIndex, 0), nil, 9, 5), 2), 2, 8, 9)
}

// TestPopups: 4 has 0 as TabIndex, and the dialog 11 in it 1.
func TestPopups(t *testing.T) {
	x := many()
	d := []int{11}
	tells(t, "no place", open(x, d, 4, -1), 5, 20, 1, 7, 4, 11)
	tells(t, "no place, higher", open(with(x, 4, api.TabIndex, 1), d, 4, -1), 4, 11, 5, 20, 1, 7)
	tells(t, "its invoker is in it", open(x, d, 4, 12), 5, 20, 1, 7, 4, 11)
	tells(t, "its invoker is itself", open(x, d, 4, 4), 5, 20, 1, 7, 4, 11)
	tells(t, "behind a button", open(x, d, 4, 1), 5, 20, 1, 4, 11, 7)
	tells(t, "behind a button, higher", open(with(x, 4, api.TabIndex, 1), d, 4, 1), 5, 20, 1, 4, 11, 7)
	tells(t, "behind a host, and its scope", open(x, d, 4, 5), 5, 20, 4, 11, 1, 7)
	tells(t, "in a shadow", open(with(x, 17, api.TabIndex, 1), []int{11, 17}, 4, 17), 5, 17, 4, 11, 20, 1, 7)
	tells(t, "behind a host that can't be focused", open(with(x, 16, api.Delegates, 0), d, 4, 5), 20, 4, 11, 1, 7)
	for _, n := range []int{0, 2, 6, 10, 14, 15, 16, 18, 21, 23} {
		tells(t, "invoked by no item", open(x, d, 4, n), 5, 20, 1, 7)
	}
	for _, n := range []int{-1, 7} {
		tells(t, "it can't be focused", open(without(x, 4, api.TabIndex), d, 4, n), 5, 20, 1, 7, 11)
		tells(t, "it is hidden", open(with(x, 4, api.Hidden, 0), d, 4, n), 5, 20, 1, 7)
		tells(t, "it is inert", open(with(x, 4, api.Inert, 0), d, 4, n), 5, 20, 1, 7)
		tells(t, "nobody in it", open(x, nil, 4, n), 5, 20, 1, 7, 4)
		tells(t, "a closed dialog", open(with(x, 3, api.TabIndex, 0), d, 3, n), 5, 20, 1, 7)
	}
	// Below 0 it is not reached, but, at its place, its scope is.
	tells(t, "below 0", open(with(x, 4, api.TabIndex, -1), d, 4, -1), 5, 20, 1, 7)
	tells(t, "below 0, with a place", open(with(x, 4, api.TabIndex, -1), d, 4, 1), 5, 20, 1, 11, 7)
	tells(t, "below 0, a button with a place", open(tagged(with(x, 4, api.TabIndex, -1), 4, api.Button), d, 4, 1), 5, 20, 1, 11, 7)
	tells(t, "its invoker below 0", open(with(x, 7, api.TabIndex, -1), d, 4, 7), 5, 20, 1)
	tells(t, "its invoker is disabled", open(with(x, 7, api.Disabled, 0), d, 4, 7), 5, 20, 1)
	tells(t, "its invoker, a host, is hidden", open(with(x, 5, api.Hidden, 0), d, 4, 5), 4, 11, 1, 7)
}

// TestManyPopups: at one place, and one in the other.
func TestManyPopups(t *testing.T) {
	x := with(many(), 9, api.TabIndex, 0)
	d := []int{2, 11}
	tells(t, "one behind the other", open(x, d, 9, 1, 4, 1), 2, 8, 5, 20, 1, 9, 4, 11, 7)
	tells(t, "the other one first", open(x, d, 4, 1, 9, 1), 2, 8, 5, 20, 1, 4, 11, 9, 7)
	tells(t, "numbers of popups", open(with(x, 9, api.TabIndex, 3), d, 4, 1, 9, 1), 2, 8, 5, 20, 1, 4, 11, 9, 7)
	tells(t, "at two places", open(x, d, 9, 1, 4, 2), 2, 4, 11, 8, 5, 20, 1, 9, 7)
	tells(t, "one in the other", open(x, d, 4, 1, 9, 11), 2, 8, 5, 20, 1, 4, 11, 9, 7)
	tells(t, "one in the other, which is shown last", open(x, d, 9, 11, 4, 1), 2, 8, 5, 20, 1, 4, 11, 9, 7)
	tells(t, "invoked by a popup that is an item", open(x, d, 9, 4, 4, -1), 2, 8, 5, 20, 1, 7, 4, 11, 9)
	tells(t, "invoked by a popup that is none", open(x, d, 9, 4, 4, 1), 2, 8, 5, 20, 1, 4, 11, 7)
	tells(t, "in a ring", open(x, d, 9, 4, 4, 9), 2, 8, 5, 20, 1, 7)
	tells(t, "in a ring, by an item", open(x, d, 9, 11, 4, 9), 2, 8, 5, 20, 1, 7)
	tells(t, "in a ring, a popup in it", open(with(x, 12, api.Popover, api.Auto), d, 9, 12, 12, 9, 4, 1), 2, 8, 5, 20, 1, 4, 11, 7)
	tells(t, "each in its own dialog", open(with(with(x, 9, api.TabIndex, 0), 10, api.Popover, api.Hand), []int{2, 3}, 9, 10, 10, 8), 2, 8, 10, 5, 20, 1, 7)
	// A host that is a popup, too, has one scope.
	y := with(x, 5, api.Popover, api.Hand)
	tells(t, "a host that is not shown", open(y, nil), 1, 7)
	tells(t, "a host, shown", open(y, nil, 5, -1), 5, 20, 1, 7)
	tells(t, "a host, with a place", open(y, nil, 5, 1), 1, 5, 20, 7)
	tells(t, "a host, with a place, and another one at it", open(y, d, 5, 1, 4, 20), 2, 8, 1, 5, 20, 4, 11, 7)
}

// TestStrangers: of those who are not on the List who is next is told by the flat tree, here 0, 1, 6, 7, 2, 8, 9, 3, 10, 4, 11, 12, 5, 17, 18, 13, 14, 20.
func TestStrangers(t *testing.T) {
	x := many()
	v := open(x, nil) // 5, 20, 1, 7
	for from, to := range map[int][2]int{
		0: {5, 7}, 6: {7, 1}, 2: {5, 7}, 8: {5, 7}, 9: {5, 7}, 3: {5, 7}, 10: {5, 7}, 4: {5, 7}, 11: {5, 7}, 12: {5, 7}, 17: {20, 5}, 18: {20, 5}, 13: {20, 5}, 14: {20, 5},
		15: {5, 7}, 16: {5, 7}, 19: {5, 7}, 21: {5, 7}, 22: {5, 7}, 23: {5, 7}, // not in the flat tree: as of 0
	} {
		goes(t, "many", v, from, to[0], false)
		goes(t, "many", v, from, to[1], true)
	}
	v.Tree = with(with(x, 20, api.TabIndex, -1), 1, api.TabIndex, -1) // 5, 7
	for from, to := range map[int][2]int{1: {7, 0}, 6: {7, 0}, 12: {5, 7}, 17: {0, 5}, 20: {0, 5}, 15: {5, 7}, 22: {5, 7}, 0: {5, 7}} {
		goes(t, "both ends", v, from, to[0], false)
		goes(t, "both ends", v, from, to[1], true)
	}
	v.Tree = with(v.Tree, 5, api.TabIndex, 0) // 7, 5
	for from, to := range map[int][2]int{1: {7, 0}, 12: {5, 7}, 20: {0, 5}, 19: {7, 5}, 0: {7, 5}} {
		goes(t, "turned round", v, from, to[0], false)
		goes(t, "turned round", v, from, to[1], true)
	}
	// Who is reached at a place stands elsewhere in the flat tree.
	v = open(x, []int{11}, 4, 1) // 5, 20, 1, 4, 11, 7
	for from, to := range map[int][2]int{10: {4, 7}, 12: {5, 11}, 6: {7, 1}, 17: {20, 5}, 0: {5, 7}, 21: {5, 7}} {
		goes(t, "a popup", v, from, to[0], false)
		goes(t, "a popup", v, from, to[1], true)
	}
	empty := api.View{Tree: with(with(sample(), 7, api.TabIndex, -1), 14, api.Disabled, 0)}
	for n := range empty.Tree {
		goes(t, "nobody", empty, n, 0, false)
		goes(t, "nobody", empty, n, 0, true)
	}
}

// TestExamples: the chapter's one, and the document's of numbers.
func TestExamples(t *testing.T) {
	x := tree.New()
	for range 4 {
		x, _, _ = tree.Make(x, api.Element, api.Button)
	}
	for _, n := range []int{1, 2, 3, 4} {
		x, _ = tree.Insert(x, tree.Place{Parent: 0, Child: n, Before: -1})
	}
	numbers := with(with(with(x, 1, api.TabIndex, 2), 3, api.TabIndex, 1), 4, api.TabIndex, 1)
	tells(t, "2, 0, 1, 1", open(numbers, nil), 3, 4, 1, 2)
	tells(t, "a popup", open(with(x, 4, api.Popover, api.Auto), nil, 4, 1), 1, 4, 2, 3)
}

func TestWrong(t *testing.T) {
	for name, v := range spoiled(t) {
		if l := tabs.List(v); l != nil {
			t.Errorf("P17.1: %s: %v", name, l)
		}
		for _, n := range append(outside(len(v.Tree)), 0, 1, 5, 7, 15) {
			goes(t, name, v, n, -1, false)
			goes(t, name, v, n, -1, true)
		}
	}
	for _, v := range []api.View{busy(), {Tree: many()}, {Tree: tree.New()}} {
		for _, n := range outside(len(v.Tree)) {
			goes(t, "no node", v, n, -1, false)
			goes(t, "no node", v, n, -1, true)
		}
	}
	tells(t, "a document alone", api.View{Tree: tree.New()})
}

// TestDeep: as many scopes, one in the other, as there can be; and as many popups, each invoked in the one ahead.
func TestDeep(t *testing.T) {
	x, at := tree.New(), 0
	var all []int
	for len(x)+1 < api.MaxNodes {
		all = append(all, len(x))
		x, _, _ = tree.Make(x, api.Element, api.Button)
		x, _ = tree.Insert(x, tree.Place{Parent: at, Child: len(x) - 1, Before: -1})
		x, at, _ = tree.Attach(x, len(x)-1)
	}
	tells(t, "hosts", api.View{Tree: x}, all...)
	x, all = tree.New(), nil
	var popups []int
	for n := 1; n < api.MaxNodes; n++ {
		x, _, _ = tree.Make(x, api.Element, api.Button)
		x, _ = tree.Insert(x, tree.Place{Parent: n % 2 * (n - 1), Child: n, Before: -1})
		if n%2 == 0 {
			x = with(x, n, api.Popover, api.Hand)
			popups = append([]int{n, n - 1}, popups...)
		}
		all = append(all, n)
	}
	tells(t, "popups", open(x, nil, popups...), all...)
}

// listOf and nextOf say the words of the chapter again.
func listOf(v api.View, owner int) []int {
	var all []int
	add := func(n int) {
		if area.Tabs(v, n) {
			all = append(all, n)
		}
		all = append(all, listOf(v, n)...)
	}
	for _, item := range scopes.Items(v, owner) {
		add(item)
		for _, p := range v.Popups {
			if scopes.Place(v, p.Node) == item {
				add(p.Node)
			}
		}
	}
	return all
}

func nextOf(v api.View, list []int, from int, back bool) int {
	seen := flat.List(v.Tree)
	step, start := 1, 0
	if back {
		step, start = -1, len(list)-1
	}
	tell := func(at int) int {
		if at < 0 || at >= len(list) {
			return 0
		}
		return list[at]
	}
	if at := slices.Index(list, from); at >= 0 {
		return tell(at + step)
	}
	if from == 0 || !flat.Has(v.Tree, from) {
		return tell(start)
	}
	for at := slices.Index(seen, from); at >= 0 && at < len(seen); at += step {
		if slices.Contains(list, seen[at]) {
			return seen[at]
		}
	}
	return 0
}

// counts: who is on lists; popups with a place that are; others that stand behind them; and, not on lists, those who go somewhere, those who go nowhere, those who are not seen.
type counts [6]int

func (c *counts) count(v api.View, list []int) {
	c[0] += len(list)
	for _, p := range v.Popups {
		at := slices.Index(list, p.Node)
		if at >= 0 && scopes.Place(v, p.Node) != -1 {
			c[1]++
			if at+1 < len(list) {
				c[2]++
			}
		}
	}
	for n := range v.Tree {
		switch {
		case slices.Contains(list, n):
		case !flat.Has(v.Tree, n):
			c[5]++
		case nextOf(v, list, n, false) != 0:
			c[3]++
		default:
			c[4]++
		}
	}
}

func TestAgainstTheWords(t *testing.T) {
	r := rand.New(rand.NewSource(17))
	var reached counts
	for range 400 {
		v := anyView(r, grow(r, 1+r.Intn(32)))
		kept := top.Copy(v)
		list := listOf(v, 0)
		tells(t, "any", v, list...)
		for n := range v.Tree {
			goes(t, "any", v, n, nextOf(v, list, n, false), false)
			goes(t, "any", v, n, nextOf(v, list, n, true), true)
		}
		whatFollows(t, v)
		if !same(v, kept) {
			t.Error("R5: the view is changed")
		}
		if t.Failed() {
			t.Fatalf("%+v", v)
		}
		reached.count(v, list)
	}
	if slices.Min(reached[:]) < 100 {
		t.Fatalf("too few: %v", reached)
	}
}

// whatFollows is about P17.3.
func whatFollows(t *testing.T, v api.View) {
	t.Helper()
	list := tabs.List(v)
	for at, n := range list {
		if slices.Contains(list[:at], n) {
			t.Errorf("P17.3: twice: %d", n)
		}
		for _, back := range []bool{false, true} {
			to := tabs.Next(v, n, back)
			if to != 0 && tabs.Next(v, to, !back) != n {
				t.Errorf("P17.3: there and back: %d", n)
			}
		}
	}
}

// TestOwnMemory: what is answered shares nothing with what was handed in, and the same again is the same.
func TestOwnMemory(t *testing.T) {
	view := func() api.View { return open(many(), []int{2, 11}, 4, 1) }
	v := view()
	first, second := tabs.List(v), tabs.List(v)
	kept := slices.Clone(second)
	for i := range first {
		first[i] = -7
	}
	if !slices.Equal(second, kept) || !slices.Equal(tabs.List(v), kept) {
		t.Error("R5, R6: a change of the answer")
	}
	for n := range v.Tree {
		if tabs.Next(v, n, true) != tabs.Next(v, n, true) || tabs.Next(v, n, false) != tabs.Next(v, n, false) {
			t.Errorf("R6: Next of %d", n)
		}
	}
	if !same(v, view()) {
		t.Error("R5: the view is changed")
	}
}

func without(x api.Tree, n int, name int) api.Tree {
	x, e := attr.Drop(x, n, name)
	if e != api.OK {
		panic("the sample has it not")
	}
	return x
}

func tagged(x api.Tree, n int, tag int) api.Tree {
	x = tree.Copy(x)
	x[n].Tag = tag
	return x
}
