package attr_test

import (
	"math"
	"math/rand"
	"reflect"
	"slices"
	"testing"

	"limelight/api"
	"limelight/attr"
	"limelight/tree"
)

// sample: a document, an Element 1 with attributes, a Text 2, 1's Shadow 3, and an Element 4 with none.
func sample() api.Tree {
	return api.Tree{
		{Kind: api.Document, Parent: -1, Kids: []int{1, 4}, Host: -1, Root: -1},
		{Kind: api.Element, Parent: 0, Kids: []int{2}, Host: -1, Root: 3, Attrs: attrs(api.TabIndex, -5, api.Hidden, 0, api.Popover, 3)},
		{Kind: api.Text, Parent: 1, Host: -1, Root: -1},
		{Kind: api.Shadow, Parent: -1, Host: 1, Root: -1, Attrs: attrs(api.Manual, 0)},
		{Kind: api.Element, Parent: 0, Host: -1, Root: -1},
	}
}

// wrong may not be, but has an attribute all the same.
func wrong() api.Tree {
	x := sample()
	x[2].Tag = 1
	return x
}

// same takes a list of attributes that is nil for an empty one.
func same(a, b api.Tree) bool {
	a, b = tree.Copy(a), tree.Copy(b)
	for _, x := range []api.Tree{a, b} {
		for n := range x {
			if len(x[n].Attrs) == 0 {
				x[n].Attrs = nil
			}
		}
	}
	return reflect.DeepEqual(a, b)
}

func TestGet(t *testing.T) {
	for i, c := range []struct {
		t     api.Tree
		n     int
		name  int
		value int
		is    bool
	}{
		{sample(), 1, api.TabIndex, -5, true}, {sample(), 1, api.Hidden, 0, true}, {sample(), 1, api.Popover, 3, true}, {sample(), 3, api.Manual, 0, true},
		{sample(), 1, api.Disabled, 0, false}, {sample(), 1, api.SlotAt, 0, false}, {sample(), 1, api.Manual, 0, false}, {sample(), 3, api.Delegates, 0, false},
		{sample(), 4, api.TabIndex, 0, false}, {sample(), 0, api.TabIndex, 0, false}, {sample(), 2, api.TabIndex, 0, false},
		{sample(), 1, -1, 0, false}, {sample(), 1, 10, 0, false}, {sample(), 1, math.MaxInt, 0, false}, {sample(), 1, math.MinInt, 0, false},
		{sample(), -1, 0, 0, false}, {sample(), 5, 0, 0, false}, {sample(), math.MaxInt, 0, 0, false}, {sample(), math.MinInt, 0, 0, false},
		{nil, 0, 0, 0, false}, {nil, 1, 0, 0, false}, {wrong(), 1, api.TabIndex, 0, false}, {wrong(), 1, api.Popover, 0, false},
	} {
		if v, is := attr.Get(c.t, c.n, c.name); v != c.value || is != c.is {
			t.Errorf("P2.1: Get: case %d: %d, %v", i, v, is)
		}
		if is := attr.Has(c.t, c.n, c.name); is != c.is {
			t.Errorf("P2.1: Has: case %d: %v", i, is)
		}
	}
}

func TestSet(t *testing.T) {
	for i, c := range []struct {
		n    int
		a    api.Attr
		want []api.Attr
	}{
		{4, api.Attr{Name: api.TabIndex, Value: 7}, attrs(0, 7)},
		{1, api.Attr{Name: api.TabIndex, Value: 7}, attrs(0, 7, 2, 0, 6, 3)},
		{1, api.Attr{Name: api.Hidden}, attrs(0, -5, 2, 0, 6, 3)},
		{1, api.Attr{Name: api.Popover, Value: 1}, attrs(0, -5, 2, 0, 6, 1)},
		{1, api.Attr{Name: api.Disabled}, attrs(0, -5, 1, 0, 2, 0, 6, 3)},
		{1, api.Attr{Name: api.Name, Value: 9}, attrs(0, -5, 2, 0, 4, 9, 6, 3)},
		{1, api.Attr{Name: api.SlotAt, Value: 63}, attrs(0, -5, 2, 0, 6, 3, 9, 63)},
		{3, api.Attr{Name: api.Delegates}, attrs(7, 0, 8, 0)},
		{3, api.Attr{Name: api.Manual}, attrs(8, 0)},
	} {
		x, want := sample(), sample()
		want[c.n].Attrs = c.want
		y, e := attr.Set(x, c.n, c.a)
		if e != api.OK || !same(y, want) || !same(x, sample()) {
			t.Errorf("P2.2: case %d: %d: %+v", i, e, y)
		}
		if v, is := attr.Get(y, c.n, c.a.Name); v != c.a.Value || !is {
			t.Errorf("P2.4: case %d: %d, %v", i, v, is)
		}
	}
}

// TestSetValues: the ends of what each attribute may be, and what lies beyond.
func TestSetValues(t *testing.T) {
	ends := map[int][2]int{
		api.TabIndex: {-(1 << 31), 1<<31 - 1}, api.Name: {0, 1<<31 - 1}, api.Popover: {1, 3}, api.SlotAt: {0, 63},
		api.Disabled: {}, api.Hidden: {}, api.Inert: {}, api.Autofocus: {}, api.Delegates: {}, api.Manual: {},
	}
	for name := range api.Attrs {
		owner, other := 4, 3
		if name == api.Delegates || name == api.Manual {
			owner, other = 3, 4
		}
		low, high := ends[name][0], ends[name][1]
		for value, want := range map[int]api.Errno{low: api.OK, high: api.OK, low - 1: api.ErrAttr, high + 1: api.ErrAttr, math.MinInt: api.ErrAttr, math.MaxInt: api.ErrAttr} {
			x := sample()
			y, e := attr.Set(x, owner, api.Attr{Name: name, Value: value})
			if e != want || e != api.OK && !same(x, y) {
				t.Errorf("P2.2: name %d, value %d: %d", name, value, e)
			}
		}
		if y, e := attr.Set(sample(), other, api.Attr{Name: name, Value: high}); e != api.ErrAttr || !same(y, sample()) {
			t.Errorf("P2.2: name %d on the other kind: %d", name, e)
		}
	}
}

func TestSetRefuses(t *testing.T) {
	for i, c := range []struct {
		n, name int
		want    api.Errno
	}{
		{-1, api.Hidden, api.ErrNode}, {5, api.Hidden, api.ErrNode}, {math.MaxInt, 99, api.ErrNode}, {math.MinInt, 99, api.ErrNode},
		{0, api.Hidden, api.ErrKind}, {2, api.Hidden, api.ErrKind}, {0, 99, api.ErrKind}, {2, -1, api.ErrKind},
		{1, -1, api.ErrAttr}, {1, 10, api.ErrAttr}, {1, math.MaxInt, api.ErrAttr}, {1, math.MinInt, api.ErrAttr}, {3, 10, api.ErrAttr},
	} {
		x := sample()
		if y, e := attr.Set(x, c.n, api.Attr{Name: c.name}); e != c.want || !same(y, sample()) || !same(x, sample()) {
			t.Errorf("P2.2: case %d: %d", i, e)
		}
	}
	for i, bad := range []api.Tree{nil, {}, wrong(), make(api.Tree, 65)} {
		for _, n := range []int{-1, 0, 1, 99} {
			if y, e := attr.Set(bad, n, api.Attr{Name: api.Hidden}); len(y) != 0 || e != api.ErrArg {
				t.Errorf("P2.2: tree %d, node %d: %d", i, n, e)
			}
		}
	}
}

func TestDrop(t *testing.T) {
	for i, c := range []struct {
		n, name int
		want    []api.Attr
	}{
		{1, api.TabIndex, attrs(2, 0, 6, 3)}, {1, api.Hidden, attrs(0, -5, 6, 3)}, {1, api.Popover, attrs(0, -5, 2, 0)}, {3, api.Manual, nil},
	} {
		x, want := sample(), sample()
		want[c.n].Attrs = c.want
		y, e := attr.Drop(x, c.n, c.name)
		if e != api.OK || !same(y, want) || !same(x, sample()) || attr.Has(y, c.n, c.name) {
			t.Errorf("P2.2: case %d: %d: %+v", i, e, y)
		}
	}
	for i, c := range []struct {
		n, name int
		want    api.Errno
	}{
		{-1, 0, api.ErrNode}, {5, 0, api.ErrNode}, {math.MaxInt, 99, api.ErrNode}, {math.MinInt, 99, api.ErrNode},
		{1, api.Disabled, api.ErrAttr}, {1, -1, api.ErrAttr}, {1, 10, api.ErrAttr}, {1, math.MaxInt, api.ErrAttr}, {1, math.MinInt, api.ErrAttr},
		{4, api.TabIndex, api.ErrAttr}, {3, api.Delegates, api.ErrAttr}, {0, api.Hidden, api.ErrAttr}, {2, api.Hidden, api.ErrAttr},
	} {
		x := sample()
		if y, e := attr.Drop(x, c.n, c.name); e != c.want || !same(y, sample()) || !same(x, sample()) {
			t.Errorf("P2.2: case %d: %d", i, e)
		}
	}
	for i, bad := range []api.Tree{nil, {}, wrong(), make(api.Tree, 65)} {
		for _, n := range []int{-1, 1, 99} {
			if y, e := attr.Drop(bad, n, api.TabIndex); len(y) != 0 || e != api.ErrArg {
				t.Errorf("P2.2: tree %d, node %d: %d", i, n, e)
			}
		}
	}
}

// TestSetIsGot: what was set is got, until it is dropped, whatever else is set and dropped between.
func TestSetIsGot(t *testing.T) {
	type key struct{ n, name int }
	r := rand.New(rand.NewSource(1))
	x := tree.New()
	x, _, _ = tree.Make(x, api.Element, api.Box)
	x, _, _ = tree.Make(x, api.Text, 0)
	x, _, _ = tree.Attach(x, 1)
	x, _, _ = tree.Make(x, api.Element, api.Slot)
	has := map[key]int{}
	for range 20000 {
		k, value := key{r.Intn(7) - 1, r.Intn(12) - 1}, r.Intn(4)*r.Intn(2)
		old, again := tree.Copy(x), api.Tree(nil)
		var y api.Tree
		var e, f api.Errno
		if r.Intn(2) == 0 {
			y, e = attr.Set(x, k.n, api.Attr{Name: k.name, Value: value})
			again, f = attr.Set(x, k.n, api.Attr{Name: k.name, Value: value})
			if e == api.OK {
				has[k] = value
			}
		} else {
			y, e = attr.Drop(x, k.n, k.name)
			again, f = attr.Drop(x, k.n, k.name)
			if _, is := has[k]; is != (e == api.OK) {
				t.Fatalf("P2.2: Drop of %v: %d", k, e)
			}
			delete(has, k)
		}
		if !same(x, old) || !same(y, again) || e != f || tree.Check(y) != api.OK {
			t.Fatalf("R5, R6, P1.4: %v: %d", k, e)
		}
		x = y
		for n := range 5 {
			for name := range api.Attrs {
				want, should := has[key{n, name}]
				if v, is := attr.Get(x, n, name); v != want || is != should {
					t.Fatalf("P2.4: node %d, name %d: %d, %v", n, name, v, is)
				}
			}
		}
	}
}

// TestAnswersShareNothing: a tree that comes is not changed when the one it came of is.
func TestAnswersShareNothing(t *testing.T) {
	for i, call := range []func(x api.Tree) (api.Tree, api.Errno){
		func(x api.Tree) (api.Tree, api.Errno) {
			return attr.Set(x, 1, api.Attr{Name: api.TabIndex, Value: 1})
		},
		func(x api.Tree) (api.Tree, api.Errno) { return attr.Drop(x, 1, api.TabIndex) },
	} {
		x := sample()
		y, e := call(x)
		kept := tree.Copy(y)
		for n := range x {
			clear(x[n].Kids)
			clear(x[n].Attrs)
		}
		if e != api.OK || !same(y, kept) || slices.Equal(x[1].Attrs, y[1].Attrs) {
			t.Errorf("R5: call %d: %d", i, e)
		}
	}
}

// attrs takes names and values by turns.
func attrs(pairs ...int) []api.Attr {
	var l []api.Attr
	for i := 0; i < len(pairs); i += 2 {
		l = append(l, api.Attr{Name: pairs[i], Value: pairs[i+1]})
	}
	return l
}
