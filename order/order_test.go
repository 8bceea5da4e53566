package order_test

import (
	"math/rand"
	"reflect"
	"slices"
	"testing"

	"limelight/api"
	"limelight/order"
	"limelight/tree"
)

func TestUpAndTop(t *testing.T) {
	x := sample()
	for n, want := range [][]int{{0}, {1, 0}, {2, 0}, {3, 1, 0}, {4, 1, 0}, {5, 1, 0}, {6, 4, 1, 0}, {7}, {8, 7}, {9, 7}, {10}, {11, 10}} {
		if got := order.Up(x, n); !slices.Equal(got, want) {
			t.Errorf("P3.1: Up of %d: %v, not %v", n, got, want)
		}
		if got := order.Top(x, n); got != want[len(want)-1] {
			t.Errorf("P3.1: Top of %d: %d", n, got)
		}
		for a := range x {
			if got := order.Above(x, a, n); got != slices.Contains(want, a) {
				t.Errorf("P3.1: Above of %d and %d: %v", a, n, got)
			}
		}
	}
}

func TestList(t *testing.T) {
	x := sample()
	for n, want := range [][]int{{0, 2, 1, 4, 6, 3, 5}, {1, 4, 6, 3, 5}, {2}, {3}, {4, 6}, {5}, {6}, {7, 9, 8}, {8}, {9}, {10, 11}, {11}} {
		if got := order.List(x, n); !slices.Equal(got, want) {
			t.Errorf("P3.2: List of %d: %v, not %v", n, got, want)
		}
	}
}

// TestExample: the chapter's one.
func TestExample(t *testing.T) {
	x := tree.New()
	x, _, _ = tree.Make(x, api.Element, api.Box)
	x, _, _ = tree.Make(x, api.Element, api.Box)
	x, _ = tree.Insert(x, tree.Place{Parent: 0, Child: 2, Before: -1})
	x, _ = tree.Insert(x, tree.Place{Parent: 0, Child: 1, Before: -1})
	if got := order.List(x, 0); !slices.Equal(got, []int{0, 2, 1}) {
		t.Errorf("P3.2: %v", got)
	}
}

func TestBefore(t *testing.T) {
	x := sample()
	for _, c := range []struct {
		a, b int
		want bool
	}{
		{0, 2, true}, {2, 0, false}, {2, 1, true}, {1, 2, false}, {2, 6, true}, {6, 2, false},
		{6, 3, true}, {3, 6, false}, {4, 6, true}, {6, 4, false}, {3, 5, true}, {5, 3, false},
		{6, 6, false}, {0, 0, false}, {7, 7, false}, // nobody is ahead of itself
		{9, 8, true}, {8, 9, false}, {7, 8, true}, {10, 11, true}, {11, 10, false},
		{2, 7, false}, {7, 2, false}, {2, 8, false}, {8, 2, false}, {0, 9, false}, {9, 0, false}, // a shadow is apart
		{0, 10, false}, {10, 0, false}, {8, 11, false}, {11, 8, false},
	} {
		if got := order.Before(x, c.a, c.b); got != c.want {
			t.Errorf("P3.2: Before of %d and %d: %v", c.a, c.b, got)
		}
	}
}

func TestCommon(t *testing.T) {
	x := sample()
	for _, c := range [][3]int{
		{6, 6, 6}, {6, 5, 1}, {5, 6, 1}, {6, 4, 4}, {4, 6, 4}, {6, 2, 0}, {0, 6, 0}, {6, 0, 0}, {3, 5, 1},
		{8, 9, 7}, {7, 9, 7}, {10, 11, 10}, {11, 11, 11},
		{2, 7, -1}, {8, 2, -1}, {2, 8, -1}, {6, 10, -1}, {11, 8, -1}, {0, 7, -1},
	} {
		if got := order.Common(x, c[0], c[1]); got != c[2] {
			t.Errorf("P3.3: Common of %d and %d: %d, not %d", c[0], c[1], got, c[2])
		}
	}
}

func TestDeep(t *testing.T) {
	x := row()
	if got := order.List(x, 0); len(got) != 64 || !slices.IsSorted(got) {
		t.Errorf("P3.2: %v", got)
	}
	if got := order.Up(x, 63); len(got) != 64 || got[0] != 63 || got[63] != 0 {
		t.Errorf("P3.1: %v", got)
	}
	if order.Top(x, 63) != 0 || !order.Above(x, 0, 63) || !order.Before(x, 62, 63) || order.Before(x, 63, 62) || order.Common(x, 63, 40) != 40 {
		t.Error("P3.1 to P3.3: a row of 64")
	}
}

func TestNoNode(t *testing.T) {
	x := sample()
	for _, bad := range outside(len(x)) {
		toldNothing(t, x, bad, bad)
		for n := range x {
			toldNothingOfTwo(t, x, bad, n)
			toldNothingOfTwo(t, x, n, bad)
		}
	}
}

func TestNoTree(t *testing.T) {
	for name, x := range spoiled(t) {
		for n := -1; n <= len(x); n++ {
			toldNothing(t, x, n, n)
			for b := -1; b <= len(x); b++ {
				toldNothingOfTwo(t, x, n, b)
			}
		}
		if t.Failed() {
			t.Fatal(name)
		}
	}
}

func toldNothing(t *testing.T, x api.Tree, n, b int) {
	t.Helper()
	if l := order.List(x, n); len(l) != 0 {
		t.Errorf("P3.2: List of %d: %v", n, l)
	}
	if l := order.Up(x, n); len(l) != 0 {
		t.Errorf("P3.1: Up of %d: %v", n, l)
	}
	if top := order.Top(x, n); top != -1 {
		t.Errorf("P3.1: Top of %d: %d", n, top)
	}
	toldNothingOfTwo(t, x, n, b)
}

func toldNothingOfTwo(t *testing.T, x api.Tree, a, b int) {
	t.Helper()
	if order.Above(x, a, b) {
		t.Errorf("P3.1: Above of %d and %d", a, b)
	}
	if order.Before(x, a, b) {
		t.Errorf("P3.2: Before of %d and %d", a, b)
	}
	if c := order.Common(x, a, b); c != -1 {
		t.Errorf("P3.3: Common of %d and %d: %d", a, b, c)
	}
}

// listOf and upOf say the chapter's words again.
func listOf(x api.Tree, n int) []int {
	l := []int{n}
	for _, k := range x[n].Kids {
		l = append(l, listOf(x, k)...)
	}
	return l
}

func upOf(x api.Tree, n int) []int {
	if x[n].Parent == -1 {
		return []int{n}
	}
	return append([]int{n}, upOf(x, x[n].Parent)...)
}

func TestAgainstTheWords(t *testing.T) {
	r := rand.New(rand.NewSource(3))
	for range 150 {
		x := grow(r, r.Intn(120))
		kept := tree.Copy(x)
		for a := range x {
			up := upOf(x, a)
			top := up[len(up)-1]
			if !slices.Equal(order.Up(x, a), up) || order.Top(x, a) != top {
				t.Fatalf("P3.1: %d of %+v", a, x)
			}
			if !slices.Equal(order.List(x, a), listOf(x, a)) {
				t.Fatalf("P3.2: %d of %+v", a, x)
			}
			for b := range x {
				againstTheWords(t, x, a, b, top)
			}
		}
		if !reflect.DeepEqual(x, kept) {
			t.Fatal("R5: the tree is changed")
		}
	}
}

func againstTheWords(t *testing.T, x api.Tree, a, b, top int) {
	t.Helper()
	ups := upOf(x, b)
	above := slices.Contains(ups, a)
	if order.Above(x, a, b) != above {
		t.Fatalf("P3.1: Above: %d, %d of %+v", a, b, x)
	}
	all := listOf(x, top)
	at, of := slices.Index(all, a), slices.Index(all, b)
	before := of > at
	if order.Before(x, a, b) != before {
		t.Fatalf("P3.2: Before: %d, %d of %+v", a, b, x)
	}
	if above && a != b && !order.Before(x, a, b) {
		t.Fatalf("P3.4: %d is above %d, not before it: %+v", a, b, x)
	}
	common := -1
	for _, n := range upOf(x, a) {
		if common == -1 && slices.Contains(ups, n) {
			common = n
		}
	}
	if order.Common(x, a, b) != common {
		t.Fatalf("P3.3: %d, %d of %+v", a, b, x)
	}
}

// TestOwnMemory: what is answered is nobody else's, and the same again is the same.
func TestOwnMemory(t *testing.T) {
	x := sample()
	for _, call := range []func(api.Tree, int) []int{order.List, order.Up} {
		for n := range x {
			l := call(x, n)
			want := slices.Clone(l)
			for i := range l {
				l[i] = -7
			}
			if !reflect.DeepEqual(x, sample()) {
				t.Fatal("R5: the tree is changed by a change of the answer")
			}
			if got := call(x, n); !slices.Equal(got, want) {
				t.Errorf("R6: %v, then %v", want, got)
			}
		}
	}
}
