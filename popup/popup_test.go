package popup_test

import (
	"math"
	"math/rand"
	"slices"
	"testing"

	"limelight/api"
	"limelight/attr"
	"limelight/flat"
	"limelight/popup"
	"limelight/top"
	"limelight/tree"
)

func over(t *testing.T, name string, v api.View, n int, invoker int, want int) {
	t.Helper()
	if got := popup.Over(v, api.Shown{Node: n, Invoker: invoker}); got != want {
		t.Errorf("P19.1: %s: Over of %d, invoked by %d: %d, not %d", name, n, invoker, got, want)
	}
}

func before(t *testing.T, name string, v api.View, n int, invoker int, want ...int) {
	t.Helper()
	if got := popup.Before(v, api.Shown{Node: n, Invoker: invoker}); !slices.Equal(got, want) {
		t.Errorf("P19.2: %s: Before of %d, invoked by %d: %v, not %v", name, n, invoker, got, want)
	}
}

func above(t *testing.T, name string, v api.View, n int, want ...int) {
	t.Helper()
	if got := popup.Above(v, n); !slices.Equal(got, want) {
		t.Errorf("P19.3: %s: Above of %d: %v, not %v", name, n, got, want)
	}
}

func light(t *testing.T, name string, v api.View, n int, want ...int) {
	t.Helper()
	if got := popup.Light(v, n); !slices.Equal(got, want) {
		t.Errorf("P19.3: %s: Light of %d: %v, not %v", name, n, got, want)
	}
}

func TestKind(t *testing.T) {
	for name, v := range map[string]api.View{"nothing is shown": {Tree: sample()}, "busy": busy()} {
		for n := range v.Tree {
			if k := popup.Kind(v, n); k != kinds[n] {
				t.Errorf("P19.1: %s: Kind of %d: %d", name, n, k)
			}
		}
	}
}

// TestOver: the stack is 1, 6, 17, 3, 8.
func TestOver(t *testing.T) {
	v := busy()
	// By the Node alone: who is not shown, or is a Hand, is not in the stack; nobody is over himself.
	for n, want := range []int{0: -1, 1: -1, 2: -1, 3: -1, 4: -1, 5: -1, 6: 1, 7: -1, 8: -1, 9: 3, 10: 17, 11: -1, 12: 17, 13: -1, 14: 6, 15: 8, 16: -1, 17: -1, 18: 17, 19: -1, 20: -1, 21: -1, 22: -1} {
		for _, nobody := range append(outside(len(v.Tree)), 0, 2, 7, 13, 11, 16) {
			over(t, "by the Node", v, n, nobody, want)
		}
	}
	for invoker, want := range []int{0: -1, 1: 1, 2: -1, 3: 3, 4: -1, 5: -1, 6: 6, 7: -1, 8: 8, 9: 3, 10: 17, 11: -1, 12: 17, 13: -1, 14: 6, 15: 8, 16: -1, 17: 17, 18: 17, 19: -1, 20: -1, 21: -1, 22: -1} {
		over(t, "by the Invoker", v, 22, invoker, want)
	}
	for _, c := range [][3]int{{6, 9, 3}, {9, 14, 3}, {14, 15, 8}, {10, 1, 17}, {15, 6, 8}, {18, 10, 17}} {
		over(t, "by both, the last one", v, c[0], c[1], c[2])
	}
	for _, c := range [][3]int{{6, 14, 6}, {6, 6, 6}, {6, 1, 1}, {1, 14, 6}, {1, 1, 1}, {17, 10, 17}, {3, 9, 3}, {8, 9, 3}, {8, 15, 8}} {
		over(t, "itself, by the Invoker", v, c[0], c[1], c[2])
	}
}

// TestOverNearer: the last one of the stack is told, not the nearest one.
func TestOverNearer(t *testing.T) {
	v := show(sample(), 6, 1)
	over(t, "two Autos", v, 14, -1, 1)
	over(t, "two Autos", v, 22, 14, 1)
	light(t, "two Autos", v, 14)
	above(t, "two Autos", v, 6, 1)
	before(t, "two Autos", v, 11, 14)
	v = show(sample(), 3, 9) // the stack is 9, 3
	over(t, "an Auto in a Hint", v, 22, 9, 3)
	light(t, "an Auto in a Hint", v, 9)
	above(t, "an Auto in a Hint", v, 9, 3)
	before(t, "an Auto in a Hint", v, 11, 9)
	before(t, "an Auto in a Hint", v, 11, 3)
	before(t, "an Auto in a Hint", v, 9, -1)
}

// TestBefore: the stack is 1, 6, 17, 3, 8.
func TestBefore(t *testing.T) {
	v := busy()
	for _, n := range []int{11, 19} {
		before(t, "an Auto", v, n, -1, 8, 3, 17, 6, 1)
		before(t, "an Auto", v, n, 7, 8, 3, 17, 6, 1)
		before(t, "an Auto", v, n, 1, 8, 3, 17, 6)
		before(t, "an Auto", v, n, 14, 8, 3, 17)
		before(t, "an Auto", v, n, 12, 8, 3)
		before(t, "an Auto", v, n, 9, 8)
		before(t, "an Auto", v, n, 15)
		before(t, "an Auto", v, n, 99, 8, 3, 17, 6, 1)
	}
	before(t, "an Auto in a Hint", v, 9, -1, 8)
	before(t, "an Auto in a Hint", v, 9, 14, 8)
	before(t, "an Auto that is shown", v, 1, -1, 8, 3, 17, 6)
	before(t, "an Auto that is shown", v, 6, -1, 8, 3, 17)
	before(t, "an Auto that is shown", v, 6, 14, 8, 3, 17)
	before(t, "an Auto that is shown", v, 17, -1, 8, 3, 6, 1)
	before(t, "an Auto that is shown", v, 1, 15)
	// A Hint hides Hints alone.
	for _, invoker := range []int{-1, 0, 7, 1, 14, 10, 99} {
		before(t, "a Hint", v, 22, invoker, 8, 3)
	}
	before(t, "a Hint", v, 22, 9, 8)
	before(t, "a Hint", v, 22, 15)
	before(t, "a Hint that is shown", v, 3, -1, 8)
	before(t, "a Hint that is shown", v, 8, -1, 3)
	before(t, "a Hint that is shown", v, 8, 9)
	before(t, "a Hint that is shown", v, 3, 15)
	// A Hand, and who is of no kind, hide nobody.
	for _, n := range []int{5, 0, 2, 4, 7, 10, 12, 14, 15, 16, 18, 20, 21} {
		before(t, "a Hand, or none", v, n, -1)
		before(t, "a Hand, or none", v, n, 14)
	}
}

// TestAbove: the stack is 1, 6, 17, 3, 8.
func TestAbove(t *testing.T) {
	v := busy()
	want := map[int][]int{1: {8, 3, 17, 6}, 6: {8, 3, 17}, 17: {8, 3}, 3: {8}}
	for n := range v.Tree {
		above(t, "busy", v, n, want[n]...)
	}
}

// TestLight: the stack is 1, 6, 17, 3, 8.
func TestLight(t *testing.T) {
	v := busy()
	want := map[int][]int{1: {8, 3, 17, 6}, 6: {8, 3, 17}, 14: {8, 3, 17}, 17: {8, 3}, 18: {8, 3}, 10: {8, 3}, 12: {8, 3}, 3: {8}, 9: {8}, 8: nil, 15: nil}
	for n := range v.Tree {
		l, is := want[n]
		if !is {
			l = []int{8, 3, 17, 6, 1}
		}
		light(t, "busy", v, n, l...)
	}
}

// TestStack: who is in it, and where.
func TestStack(t *testing.T) {
	x := sample()
	light(t, "nothing is shown", api.View{Tree: x}, 0)
	light(t, "a Hand", show(x, 5), 0)
	light(t, "Autos", show(x, 17, 1, 6), 0, 6, 1, 17)
	light(t, "Hints", show(x, 8, 22, 3), 0, 3, 22, 8)
	light(t, "Hints first", show(x, 8, 3, 6, 1), 0, 3, 8, 1, 6)
	light(t, "by turns", show(x, 8, 6, 5, 3, 1), 0, 3, 8, 1, 6)
	// A dialog that is open is no popup that is shown, whether it has a kind or not.
	x = with(x, 21, api.Popover, api.Auto)
	for name, v := range map[string]api.View{"open": {Tree: x, Open: []int{21}}, "modal": {Tree: x, Modal: []int{21}, Top: []int{21}}} {
		light(t, name, v, 0)
		above(t, name, v, 21)
		over(t, name, v, 22, -1, -1)
		if k := popup.Kind(v, 21); k != api.Auto {
			t.Errorf("P19.1: %s: %d", name, k)
		}
	}
	v := show(x, 21)
	light(t, "a dialog, shown", v, 0, 21)
	over(t, "a dialog, shown", v, 22, -1, 21)
}

// TestExample: the chapter's one.
func TestExample(t *testing.T) {
	x := tree.New()
	for n := 1; n <= 2; n++ {
		x, _, _ = tree.Make(x, api.Element, api.Box)
		x, _ = tree.Insert(x, tree.Place{Parent: 0, Child: n, Before: -1})
		x = with(x, n, api.Popover, api.Auto)
	}
	before(t, "two Autos", show(x, 1), 2, -1, 1)
	over(t, "two Autos", show(x, 1), 2, -1, -1)
}

func TestWrong(t *testing.T) {
	views := spoiled(t)
	for name, v := range views {
		for _, n := range append(outside(len(v.Tree)), 0, 1, 3, 6, 9, 14) {
			nothing(t, name, v, n)
		}
	}
	for _, v := range []api.View{busy(), {Tree: sample()}, {Tree: tree.New()}} {
		for _, n := range outside(len(v.Tree)) {
			nothing(t, "no node", v, n)
		}
	}
	light(t, "a document alone", api.View{Tree: tree.New()}, 0)
}

func nothing(t *testing.T, name string, v api.View, n int) {
	t.Helper()
	if k := popup.Kind(v, n); k != 0 {
		t.Errorf("P19.1: %s: Kind of %d: %d", name, n, k)
	}
	for _, invoker := range []int{-1, 0, 1, 14, 99, math.MinInt} {
		over(t, name, v, n, invoker, -1)
		before(t, name, v, n, invoker)
	}
	above(t, name, v, n)
	light(t, name, v, n)
}

// TestDeep: as many popups, one in the other, as there can be.
func TestDeep(t *testing.T) {
	x := tree.New()
	var up []int
	for n := 1; n < api.MaxNodes; n++ {
		x, _, _ = tree.Make(x, api.Element, api.Box)
		x, _ = tree.Insert(x, tree.Place{Parent: n - 1, Child: n, Before: -1})
		x = with(x, n, api.Popover, api.Auto)
		up = append(up, n)
	}
	down := slices.Clone(up)
	slices.Reverse(down)
	v := show(x, up...)
	light(t, "deep", v, 0, down...)
	for n := 1; n < api.MaxNodes; n++ {
		higher, holder := down[:api.MaxNodes-1-n], n-1
		if n == 1 {
			holder = -1
		}
		over(t, "deep", v, n, -1, holder)
		before(t, "deep", v, n, -1, higher...)
		above(t, "deep", v, n, higher...)
		light(t, "deep", v, n, higher...)
	}
}

func kindOf(t api.Tree, n int) int {
	k, _ := attr.Get(t, n, api.Popover)
	return k
}

// stackOf and what follows it say the words of the chapter again, going up the stack.
func stackOf(v api.View) []int {
	var all []int
	for _, kind := range []int{api.Auto, api.Hint} {
		for _, x := range v.Popups {
			if kindOf(v.Tree, x.Node) == kind {
				all = append(all, x.Node)
			}
		}
	}
	return all
}

func overOf(v api.View, x api.Shown) int {
	last := -1
	for _, n := range stackOf(v) {
		byNode := n != x.Node && flat.Above(v.Tree, n, x.Node)
		byInvoker := x.Invoker >= 0 && x.Invoker < len(v.Tree) && flat.Above(v.Tree, n, x.Invoker)
		if byNode || byInvoker {
			last = n
		}
	}
	return last
}

// behind is all of the stack, of a number that is not in it.
func behind(v api.View, n int) []int {
	stack := stackOf(v)
	l := slices.Clone(stack[slices.Index(stack, n)+1:])
	slices.Reverse(l)
	return l
}

func beforeOf(v api.View, x api.Shown) []int {
	kind := kindOf(v.Tree, x.Node)
	if kind != api.Auto && kind != api.Hint {
		return nil
	}
	return slices.DeleteFunc(behind(v, overOf(v, x)), func(n int) bool {
		return n == x.Node || kind == api.Hint && kindOf(v.Tree, n) != api.Hint
	})
}

func aboveOf(v api.View, n int) []int {
	if !slices.Contains(stackOf(v), n) {
		return nil
	}
	return behind(v, n)
}

func lightOf(v api.View, n int) []int {
	last := -1
	for _, m := range stackOf(v) {
		if flat.Above(v.Tree, m, n) {
			last = m
		}
	}
	return behind(v, last)
}

// counts: who has one over him by his Node, and by the Invoker alone; Autos, and Hints, that hide some, but not all; Autos that hide Hints; and clicks that hide some, but not all.
type counts [6]int

func (c *counts) count(v api.View, x api.Shown) {
	stack, hidden, lit := stackOf(v), beforeOf(v, x), lightOf(v, x.Node)
	kind := kindOf(v.Tree, x.Node)
	alone := overOf(v, api.Shown{Node: x.Node, Invoker: -1})
	some := len(hidden) > 0 && len(hidden) < len(stack)
	c.add(0, alone != -1 && overOf(v, x) == alone)
	c.add(1, overOf(v, x) != alone)
	c.add(2, some && kind == api.Auto)
	c.add(3, some && kind == api.Hint)
	c.add(4, some && kind == api.Auto && kindOf(v.Tree, hidden[0]) == api.Hint)
	c.add(5, len(lit) > 0 && len(lit) < len(stack))
}

func (c *counts) add(at int, is bool) {
	if is {
		c[at]++
	}
}

func TestAgainstTheWords(t *testing.T) {
	r := rand.New(rand.NewSource(19))
	var reached counts
	for range 300 {
		v := anyView(r, grow(r, 1+r.Intn(28)))
		kept := top.Copy(v)
		for n := range v.Tree {
			above(t, "any", v, n, aboveOf(v, n)...)
			light(t, "any", v, n, lightOf(v, n)...)
			for range 3 {
				x := api.Shown{Node: n, Invoker: r.Intn(len(v.Tree)+2) - 1}
				over(t, "any", v, n, x.Invoker, overOf(v, x))
				before(t, "any", v, n, x.Invoker, beforeOf(v, x)...)
				whatFollows(t, v, x)
				reached.count(v, x)
			}
		}
		if !same(v, kept) {
			t.Error("R5: the view is changed")
		}
		if t.Failed() {
			t.Fatalf("%+v", v)
		}
	}
	if slices.Min(reached[:]) < 100 {
		t.Fatalf("too few: %v", reached)
	}
}

// whatFollows is about P19.4.
func whatFollows(t *testing.T, v api.View, x api.Shown) {
	t.Helper()
	for _, n := range popup.Before(v, x) {
		if flat.Above(v.Tree, n, x.Node) || flat.Above(v.Tree, n, x.Invoker) {
			t.Errorf("P19.4: %d is hidden for %v", n, x)
		}
	}
}

// TestOwnMemory: what is answered shares nothing with what was handed in, and the same again is the same.
func TestOwnMemory(t *testing.T) {
	v := busy()
	for name, ask := range map[string]func() []int{
		"Before": func() []int { return popup.Before(v, api.Shown{Node: 11, Invoker: -1}) },
		"Above":  func() []int { return popup.Above(v, 1) },
		"Light":  func() []int { return popup.Light(v, 0) },
	} {
		first, second := ask(), ask()
		kept := slices.Clone(second)
		for i := range first {
			first[i] = -7
		}
		_ = append(first, -7)
		if !slices.Equal(second, kept) || !slices.Equal(ask(), kept) || len(kept) < 4 {
			t.Errorf("R5, R6: %s: a change of the answer", name)
		}
	}
	if !same(v, busy()) {
		t.Error("R5: the view is changed")
	}
}
