package tree_test

import (
	"math"
	"math/rand"
	"slices"
	"testing"

	"limelight/api"
	"limelight/tree"
)

// TestNumbers: the limits and the errors of the document's section Words.
func TestNumbers(t *testing.T) {
	for i, c := range [][2]int{
		{api.MaxNodes, 64}, {api.MaxValue, 2147483648}, {api.MaxFuel, 2000}, {api.MaxDepth, 6}, {api.MaxProg, 16}, {api.MaxHears, 64},
		{api.Document, 0}, {api.Element, 1}, {api.Text, 2}, {api.Shadow, 3},
		{api.Box, 0}, {api.Button, 1}, {api.Dialog, 2}, {api.Slot, 3}, {api.Link, 4},
		{api.TabIndex, 0}, {api.Name, 4}, {api.Popover, 6}, {api.Delegates, 7}, {api.Manual, 8}, {api.SlotAt, 9}, {api.Attrs, 10},
		{api.Auto, 1}, {api.Hint, 2}, {api.Hand, 3}, {api.Focus, 0}, {api.Click, 8}, {api.Types, 9},
	} {
		if c[0] != c[1] {
			t.Errorf("number %d: %d, not %d", i, c[0], c[1])
		}
	}
	for want, e := range []api.Errno{api.OK, api.ErrArg, api.ErrNode, api.ErrKind, api.ErrFull, api.ErrLoop, api.ErrShadow, api.ErrAttr, api.ErrFocus, api.ErrState, api.ErrFuel, api.ErrDepth, api.ErrOp, api.ErrLine} {
		if int(e) != want {
			t.Errorf("error %d: %d", want, e)
		}
	}
}

func TestCheckTakesWhatMayBe(t *testing.T) {
	low, high := -(1 << 31), 1<<31-1
	for name, change := range map[string]func(x api.Tree){
		"as it is":           func(x api.Tree) {},
		"kids in order":      func(x api.Tree) { x[1].Kids = []int{5, 3, 4} },
		"no kids, not nil":   func(x api.Tree) { x[4].Kids = []int{} },
		"no attrs, not nil":  func(x api.Tree) { x[4].Attrs = []api.Attr{} },
		"the last tag":       func(x api.Tree) { x[1].Tag = api.Link },
		"least values":       func(x api.Tree) { x[1].Attrs = attrs(0, low, 4, 0, 6, 1, 9, 0) },
		"greatest values":    func(x api.Tree) { x[1].Attrs = attrs(0, high, 4, high, 6, 3, 9, 63) },
		"all of an element":  func(x api.Tree) { x[1].Attrs = attrs(0, 0, 1, 0, 2, 0, 3, 0, 4, 1, 5, 0, 6, 2, 9, 1) },
		"all of a shadow":    func(x api.Tree) { x[6].Attrs = attrs(7, 0, 8, 0) },
		"none of a shadow":   func(x api.Tree) { x[6].Attrs = nil },
		"apart from the top": func(x api.Tree) { x[0].Kids, x[1].Parent = []int{2}, -1 },
	} {
		x := sample()
		change(x)
		if e := tree.Check(x); e != api.OK {
			t.Errorf("P1.1: %s: %d", name, e)
		}
	}
}

func TestCheckRefuses(t *testing.T) {
	for name, spoil := range map[string]func(x api.Tree){
		"document's kind":             func(x api.Tree) { x[0].Kind = api.Shadow },
		"a second document":           func(x api.Tree) { x[10].Kind = api.Document },
		"a kind below":                func(x api.Tree) { x[10].Kind = -1 },
		"a kind above":                func(x api.Tree) { x[10].Kind = 4 },
		"a tag below":                 func(x api.Tree) { x[10].Tag = -1 },
		"a tag above":                 func(x api.Tree) { x[10].Tag = 5 },
		"a text's tag":                func(x api.Tree) { x[4].Tag = 1 },
		"a shadow's tag":              func(x api.Tree) { x[6].Tag = 1 },
		"the document's tag":          func(x api.Tree) { x[0].Tag = 1 },
		"a kid that is no node":       func(x api.Tree) { x[0].Kids = []int{1, 2, 11} },
		"a kid below":                 func(x api.Tree) { x[0].Kids = []int{1, 2, -1} },
		"a kid far away":              func(x api.Tree) { x[0].Kids = []int{1, 2, math.MaxInt} },
		"a kid twice":                 func(x api.Tree) { x[0].Kids = []int{1, 2, 1} },
		"a kid of two":                func(x api.Tree) { x[2].Kids = []int{3} },
		"a kid without the parent":    func(x api.Tree) { x[2].Kids = []int{10} },
		"a kid of a text":             func(x api.Tree) { x[4].Kids, x[10].Parent = []int{10}, 4 },
		"a shadow as a kid":           func(x api.Tree) { x[2].Kids, x[6].Parent = []int{6}, 2 },
		"the document as a kid":       func(x api.Tree) { x[10].Kids, x[0].Parent = []int{0}, 10 },
		"a parent without the kid":    func(x api.Tree) { x[10].Parent = 0 },
		"another parent":              func(x api.Tree) { x[3].Parent = 0 },
		"a parent below none":         func(x api.Tree) { x[10].Parent = -2 },
		"a parent that is no node":    func(x api.Tree) { x[10].Parent = 11 },
		"the document's parent":       func(x api.Tree) { x[0].Parent = 0 },
		"a shadow's parent":           func(x api.Tree) { x[6].Parent = 3 },
		"a shadow without a host":     func(x api.Tree) { x[6].Host = -1 },
		"a host that is no node":      func(x api.Tree) { x[6].Host = 11 },
		"a host without the root":     func(x api.Tree) { x[3].Root = -1 },
		"another host":                func(x api.Tree) { x[6].Host = 2 },
		"a text as host":              func(x api.Tree) { x[3].Root, x[6].Host, x[4].Root = -1, 4, 6 },
		"the document as host":        func(x api.Tree) { x[3].Root, x[6].Host, x[0].Root = -1, 0, 6 },
		"a host of an element":        func(x api.Tree) { x[10].Host = 3 },
		"a host of the document":      func(x api.Tree) { x[0].Host = 0 },
		"a host of a text":            func(x api.Tree) { x[4].Host = 3 },
		"a host below none":           func(x api.Tree) { x[10].Host = -2 },
		"one root of two":             func(x api.Tree) { x[2].Root = 6 },
		"an element as root":          func(x api.Tree) { x[2].Root = 10 },
		"an element as root and host": func(x api.Tree) { x[2].Root, x[10].Host = 10, 2 },
		"a root that is no node":      func(x api.Tree) { x[2].Root = 11 },
		"a root below none":           func(x api.Tree) { x[2].Root = -2 },
		"a root of the document":      func(x api.Tree) { x[0].Root = 6 },
		"a root of a text":            func(x api.Tree) { x[4].Root = 6 },
		"a root of a shadow":          func(x api.Tree) { x[6].Root = 6 },
		"a loop of one":               func(x api.Tree) { x[10].Parent, x[10].Kids = 10, []int{10} },
		"a loop of two": func(x api.Tree) {
			x[10].Parent, x[10].Kids, x[2].Parent, x[2].Kids, x[0].Kids = 2, []int{2}, 10, []int{10}, []int{1}
		},
		"a loop by a host":            func(x api.Tree) { x[1].Kids, x[3].Parent, x[7].Kids = []int{4, 5}, 7, []int{3} },
		"attrs of the document":       func(x api.Tree) { x[0].Attrs = attrs(0, 0) },
		"attrs of a text":             func(x api.Tree) { x[4].Attrs = attrs(4, 0) },
		"a shadow's own on elements":  func(x api.Tree) { x[1].Attrs = attrs(7, 0) },
		"manual on an element":        func(x api.Tree) { x[1].Attrs = attrs(8, 0) },
		"an element's own on shadows": func(x api.Tree) { x[6].Attrs = attrs(2, 0) },
		"slotat on a shadow":          func(x api.Tree) { x[6].Attrs = attrs(9, 0) },
		"a name twice":                func(x api.Tree) { x[1].Attrs = attrs(2, 0, 2, 0) },
		"names that fall":             func(x api.Tree) { x[1].Attrs = attrs(3, 0, 2, 0) },
		"a name below":                func(x api.Tree) { x[1].Attrs = attrs(-1, 0) },
		"a name above":                func(x api.Tree) { x[1].Attrs = attrs(10, 0) },
		"tabindex below":              func(x api.Tree) { x[1].Attrs = attrs(0, -(1<<31)-1) },
		"tabindex above":              func(x api.Tree) { x[1].Attrs = attrs(0, 1<<31) },
		"name below":                  func(x api.Tree) { x[1].Attrs = attrs(4, -1) },
		"name above":                  func(x api.Tree) { x[1].Attrs = attrs(4, 1<<31) },
		"popover below":               func(x api.Tree) { x[1].Attrs = attrs(6, 0) },
		"popover above":               func(x api.Tree) { x[1].Attrs = attrs(6, 4) },
		"slotat below":                func(x api.Tree) { x[1].Attrs = attrs(9, -1) },
		"slotat above":                func(x api.Tree) { x[1].Attrs = attrs(9, 64) },
		"disabled with a value":       func(x api.Tree) { x[1].Attrs = attrs(1, 1) },
		"hidden with a value":         func(x api.Tree) { x[1].Attrs = attrs(2, -1) },
		"inert with a value":          func(x api.Tree) { x[1].Attrs = attrs(3, 1) },
		"autofocus with a value":      func(x api.Tree) { x[1].Attrs = attrs(5, 1) },
		"delegates with a value":      func(x api.Tree) { x[6].Attrs = attrs(7, 1) },
		"manual with a value":         func(x api.Tree) { x[6].Attrs = attrs(8, 1) },
	} {
		x := sample()
		spoil(x)
		if e := tree.Check(x); e != api.ErrArg {
			t.Errorf("P1.1: %s: %d", name, e)
		}
		refusedEverywhere(t, name, x)
	}
}

func refusedEverywhere(t *testing.T, name string, x api.Tree) {
	t.Helper()
	if y, n, e := tree.Make(x, api.Element, 99); len(y) != 0 || n != 0 || e != api.ErrArg {
		t.Errorf("P1.2: Make: %s: %d, %d", name, n, e)
	}
	if y, n, e := tree.Attach(x, 99); len(y) != 0 || n != 0 || e != api.ErrArg {
		t.Errorf("P1.2: Attach: %s: %d, %d", name, n, e)
	}
	if y, e := tree.Insert(x, tree.Place{Parent: 99, Child: 1, Before: -1}); len(y) != 0 || e != api.ErrArg {
		t.Errorf("P1.3: Insert: %s: %d", name, e)
	}
	if y, e := tree.Remove(x, 99); len(y) != 0 || e != api.ErrArg {
		t.Errorf("P1.3: Remove: %s: %d", name, e)
	}
}

func TestCheckCountsNodes(t *testing.T) {
	x := full(t, tree.New())
	if len(x) != 64 || tree.Check(x) != api.OK {
		t.Errorf("P1.1: 64 nodes: %d", tree.Check(x))
	}
	more := append(tree.Copy(x), api.Node{Kind: api.Element, Parent: -1, Host: -1, Root: -1})
	for name, bad := range map[string]api.Tree{"nil": nil, "empty": {}, "65 nodes": more} {
		if e := tree.Check(bad); e != api.ErrArg {
			t.Errorf("P1.1: %s: %d", name, e)
		}
		refusedEverywhere(t, name, bad)
	}
}

// TestCheckTellsDeepLoops: the longest way up that there is, and the longest loop.
func TestCheckTellsDeepLoops(t *testing.T) {
	x := full(t, tree.New())
	for n := 1; n < 64; n++ {
		x[n-1].Kids, x[n].Parent = []int{n}, n-1
	}
	if e := tree.Check(x); e != api.OK {
		t.Errorf("P1.1: a row of 64: %d", e)
	}
	if _, e := tree.Insert(x, tree.Place{Parent: 63, Child: 1, Before: -1}); e != api.ErrLoop {
		t.Errorf("P1.3: the first one under the last one: %d", e)
	}
	x[0].Kids, x[1].Parent, x[63].Kids = nil, 63, []int{1}
	if e := tree.Check(x); e != api.ErrArg {
		t.Errorf("P1.1: a loop of 63: %d", e)
	}
}

// allowed says the document's words again, each by itself, without a thought of speed.
func allowed(x api.Tree) bool {
	if len(x) < 1 || len(x) > 64 {
		return false
	}
	has := func(n int) bool { return 0 <= n && n < len(x) }
	for n, a := range x {
		ok := a.Kind >= 0 && a.Kind <= 3 && (n == 0) == (a.Kind == 0)
		ok = ok && a.Tag >= 0 && (a.Tag == 0 || a.Kind == 1 && a.Tag <= 4) && (a.Kind != 2 || len(a.Kids) == 0)
		holders := 0
		for p, b := range x {
			for _, k := range b.Kids {
				if k == n {
					holders++
					ok = ok && a.Parent == p
				}
			}
		}
		ok = ok && holders <= 1 && (holders == 1 || a.Parent == -1)
		for _, k := range a.Kids {
			ok = ok && has(k) && (x[k].Kind == 1 || x[k].Kind == 2)
		}
		switch a.Kind {
		case 3:
			ok = ok && has(a.Host) && x[a.Host].Kind == 1 && x[a.Host].Root == n && a.Root == -1
		case 1:
			ok = ok && a.Host == -1 && (a.Root == -1 || has(a.Root) && x[a.Root].Kind == 3 && x[a.Root].Host == n)
		default:
			ok = ok && a.Host == -1 && a.Root == -1 && len(a.Attrs) == 0
		}
		if !ok || !slices.IsSortedFunc(a.Attrs, func(p, q api.Attr) int { return p.Name - q.Name }) {
			return false
		}
		for i, at := range a.Attrs {
			own := at.Name == 7 || at.Name == 8
			low, high := [10]int{0: -1 << 31, 6: 1}, [10]int{0: 1<<31 - 1, 4: 1<<31 - 1, 6: 3, 9: 63}
			if at.Name < 0 || at.Name > 9 || own != (a.Kind == 3) || at.Value < low[at.Name] || at.Value > high[at.Name] || i > 0 && a.Attrs[i-1].Name == at.Name {
				return false
			}
		}
	}
	for n := range x {
		met := map[int]bool{}
		for at := n; at != -1; {
			if met[at] {
				return false
			}
			met[at] = true
			if x[at].Kind == 3 {
				at = x[at].Host
			} else {
				at = x[at].Parent
			}
		}
	}
	return true
}

// twist changes one thing, which is as often right as wrong.
func twist(r *rand.Rand, x api.Tree) {
	number := func() int {
		return []int{-2, -1, 0, 1, 2, 3, 4, r.Intn(len(x)), len(x), 64, math.MinInt, math.MaxInt}[r.Intn(12)]
	}
	n := r.Intn(len(x))
	switch r.Intn(9) {
	case 0:
		x[n].Kind = number()
	case 1:
		x[n].Tag = number()
	case 2:
		x[n].Parent = number()
	case 3:
		x[n].Kids = append(x[n].Kids, number())
	case 4:
		r.Shuffle(len(x[n].Kids), func(i, j int) { x[n].Kids[i], x[n].Kids[j] = x[n].Kids[j], x[n].Kids[i] })
	case 5:
		x[n].Host = number()
	case 6:
		x[n].Root = number()
	case 7:
		x[n].Attrs = append(x[n].Attrs, api.Attr{Name: r.Intn(12) - 1, Value: number() * r.Intn(2)})
	case 8: // a move that both ends agree on, into a loop or not
		m := r.Intn(len(x))
		if p := x[n].Parent; p >= 0 && p < len(x) {
			x[p].Kids = slices.DeleteFunc(x[p].Kids, func(k int) bool { return k == n })
		}
		x[n].Parent, x[m].Kids = m, append(x[m].Kids, n)
	}
}

func TestCheckAgainstTheWords(t *testing.T) {
	r := rand.New(rand.NewSource(1))
	count := map[bool]int{}
	for range 20000 {
		x := grow(r, r.Intn(40))
		for range r.Intn(4) {
			twist(r, x)
		}
		want := allowed(x)
		count[want]++
		if got := tree.Check(x) == api.OK; got != want {
			t.Fatalf("P1.1: %v of %+v", got, x)
		}
	}
	if count[true] < 1000 || count[false] < 1000 {
		t.Errorf("too few of one sort: %v", count)
	}
}
