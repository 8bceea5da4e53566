package shade_test

import (
	"math/rand"
	"reflect"
	"slices"
	"testing"

	"limelight/api"
	"limelight/order"
	"limelight/shade"
	"limelight/tree"
)

func TestUp(t *testing.T) {
	x := sample()
	if tree.Check(x) != api.OK {
		t.Fatal("the sample may not be")
	}
	for n, want := range [][]int{
		{0}, {1, 0}, {2, 0}, {3, 1, 0}, {4, 1, 0}, {5, 1, 0}, {6, 5, 1, 0}, {7, 5, 1, 0}, {8, 6, 5, 1, 0}, {9, 8, 6, 5, 1, 0}, {10, 2, 0},
		{11}, {12, 11}, {13, 11}, {14, 13, 11},
	} {
		if got := shade.Up(x, n); !slices.Equal(got, want) {
			t.Errorf("P4.1: Up of %d: %v, not %v", n, got, want)
		}
		if got := shade.Connected(x, n); got != (n < 11) {
			t.Errorf("P4.2: Connected of %d: %v", n, got)
		}
		for a := range x {
			if got := shade.Above(x, a, n); got != slices.Contains(want, a) {
				t.Errorf("P4.1: Above of %d and %d: %v", a, n, got)
			}
		}
	}
}

func TestHost(t *testing.T) {
	for n, want := range []int{-1, -1, -1, -1, -1, 1, 1, 1, 6, 6, 2, -1, -1, 11, 11} {
		if got := shade.Host(sample(), n); got != want {
			t.Errorf("P4.1: Host of %d: %d, not %d", n, got, want)
		}
	}
}

func TestList(t *testing.T) {
	for n, want := range [][]int{
		{0, 1, 5, 6, 8, 9, 7, 3, 4, 2, 10}, {1, 5, 6, 8, 9, 7, 3, 4}, {2, 10}, {3}, {4}, {5, 6, 8, 9, 7}, {6, 8, 9}, {7}, {8, 9}, {9}, {10},
		{11, 13, 14, 12}, {12}, {13, 14}, {14},
	} {
		if got := shade.List(sample(), n); !slices.Equal(got, want) {
			t.Errorf("P4.2: List of %d: %v, not %v", n, got, want)
		}
	}
}

func TestRetarget(t *testing.T) {
	x := sample()
	for _, c := range [][3]int{
		{0, 9, 0}, {4, 9, 4}, {3, 2, 3}, {12, 0, 12}, // in no shadow: itself, whoever is told
		{7, 0, 1}, {7, 1, 1}, {7, 4, 1}, {7, 10, 1}, {7, 12, 1}, {5, 0, 1}, // in one, told to those outside
		{7, 5, 7}, {7, 6, 7}, {7, 9, 7}, {7, 7, 7}, {5, 9, 5}, {5, 5, 5}, // told to those inside, and deeper
		{9, 9, 9}, {9, 8, 9}, {8, 9, 8}, {9, 6, 6}, {9, 7, 6}, {9, 5, 6}, {8, 7, 6}, // in two, of which one is left
		{9, 0, 1}, {9, 1, 1}, {9, 2, 1}, {9, 14, 1}, {8, 0, 1}, // and of which both are
		{10, 0, 2}, {10, 9, 2}, {10, 10, 10}, {14, 0, 11}, {14, 9, 11}, {13, 11, 11}, {14, 13, 14},
	} {
		if got := shade.Retarget(x, c[0], c[1]); got != c[2] {
			t.Errorf("P4.3: %d told to %d: %d, not %d", c[0], c[1], got, c[2])
		}
	}
}

// TestExample: the chapter's one.
func TestExample(t *testing.T) {
	x := tree.New()
	x, host, _ := tree.Make(x, api.Element, api.Box)
	x, _ = tree.Insert(x, tree.Place{Parent: 0, Child: host, Before: -1})
	x, root, _ := tree.Attach(x, host)
	x, in, _ := tree.Make(x, api.Element, api.Box)
	x, _ = tree.Insert(x, tree.Place{Parent: root, Child: in, Before: -1})
	if got := shade.Retarget(x, in, 0); host != 1 || got != 1 {
		t.Errorf("P4.3: %d", got)
	}
}

func TestDeep(t *testing.T) {
	x := nest()
	if len(x) != 64 {
		t.Fatalf("%d nodes", len(x))
	}
	in := len(x) - 1
	if got := shade.List(x, 0); len(got) != len(x) || !slices.IsSorted(got) {
		t.Errorf("P4.2: %v", got)
	}
	if got := shade.Up(x, in); len(got) != len(x) || got[0] != in || got[in] != 0 {
		t.Errorf("P4.1: %v", got)
	}
	if !shade.Connected(x, in) || !shade.Above(x, 1, in) || shade.Above(x, in, 1) {
		t.Error("P4.1, P4.2: Connected, Above")
	}
	if got := shade.Retarget(x, in, 0); got != 1 {
		t.Errorf("P4.3: told to 0: %d", got)
	}
	if got := shade.Retarget(x, in, 32); got != 33 {
		t.Errorf("P4.3: told to 32: %d", got)
	}
}

func TestNoNode(t *testing.T) {
	x := sample()
	for _, bad := range outside(len(x)) {
		toldNothing(t, x, bad)
		for n := range x {
			toldNothingOfTwo(t, x, bad, n)
			toldNothingOfTwo(t, x, n, bad)
		}
	}
}

func TestNoTree(t *testing.T) {
	for name, x := range spoiled(t) {
		for n := -1; n <= len(x); n++ {
			toldNothing(t, x, n)
			for b := -1; b <= len(x); b++ {
				toldNothingOfTwo(t, x, n, b)
			}
		}
		if t.Failed() {
			t.Fatal(name)
		}
	}
}

func toldNothing(t *testing.T, x api.Tree, n int) {
	t.Helper()
	if h := shade.Host(x, n); h != -1 {
		t.Errorf("P4.1: Host of %d: %d", n, h)
	}
	if l := shade.Up(x, n); len(l) != 0 {
		t.Errorf("P4.1: Up of %d: %v", n, l)
	}
	if l := shade.List(x, n); len(l) != 0 {
		t.Errorf("P4.2: List of %d: %v", n, l)
	}
	if shade.Connected(x, n) {
		t.Errorf("P4.2: Connected of %d", n)
	}
	toldNothingOfTwo(t, x, n, n)
}

func toldNothingOfTwo(t *testing.T, x api.Tree, a, b int) {
	t.Helper()
	if shade.Above(x, a, b) {
		t.Errorf("P4.1: Above of %d and %d", a, b)
	}
	if got := shade.Retarget(x, a, b); got != -1 {
		t.Errorf("P4.3: %d told to %d: %d", a, b, got)
	}
}

// listOf, upOf and retargetOf say the chapter's words again.
func listOf(x api.Tree, n int) []int {
	l := []int{n}
	if x[n].Root != -1 {
		l = append(l, listOf(x, x[n].Root)...)
	}
	for _, k := range x[n].Kids {
		l = append(l, listOf(x, k)...)
	}
	return l
}

func upOf(x api.Tree, n int) []int {
	next := x[n].Parent
	if x[n].Kind == api.Shadow {
		next = x[n].Host
	}
	if next == -1 {
		return []int{n}
	}
	return append([]int{n}, upOf(x, next)...)
}

func topOf(x api.Tree, n int) int {
	for x[n].Parent != -1 {
		n = x[n].Parent
	}
	return n
}

func retargetOf(x api.Tree, a, b int) int {
	for top := topOf(x, a); x[top].Kind == api.Shadow && !slices.Contains(upOf(x, b), top); top = topOf(x, a) {
		a = x[top].Host
	}
	return a
}

func TestAgainstTheWords(t *testing.T) {
	r := rand.New(rand.NewSource(4))
	for range 120 {
		x := grow(r, r.Intn(160))
		kept := tree.Copy(x)
		for a := range x {
			if !slices.Equal(shade.Up(x, a), upOf(x, a)) || shade.Connected(x, a) != slices.Contains(upOf(x, a), 0) {
				t.Fatalf("P4.1: %d of %+v", a, x)
			}
			host := -1
			if top := topOf(x, a); x[top].Kind == api.Shadow {
				host = x[top].Host
			}
			if shade.Host(x, a) != host {
				t.Fatalf("P4.1: Host: %d of %+v", a, x)
			}
			if !slices.Equal(shade.List(x, a), listOf(x, a)) {
				t.Fatalf("P4.2: %d of %+v", a, x)
			}
			for b := range x {
				againstTheWords(t, x, a, b)
			}
		}
		if !reflect.DeepEqual(x, kept) {
			t.Fatal("R5: the tree is changed")
		}
	}
}

func againstTheWords(t *testing.T, x api.Tree, a, b int) {
	t.Helper()
	if shade.Above(x, a, b) != slices.Contains(upOf(x, b), a) {
		t.Fatalf("P4.1: Above: %d, %d of %+v", a, b, x)
	}
	got := shade.Retarget(x, a, b)
	if got != retargetOf(x, a, b) {
		t.Fatalf("P4.3: %d, %d of %+v", a, b, x)
	}
	if top := order.Top(x, got); x[top].Kind == api.Shadow && !shade.Above(x, top, b) {
		t.Fatalf("P4.4: %d is told of %d, in a shadow that does not hold it: %+v", b, got, x)
	}
}

// TestOwnMemory: what is answered is nobody else's, and the same again is the same.
func TestOwnMemory(t *testing.T) {
	x := sample()
	for _, call := range []func(api.Tree, int) []int{shade.List, shade.Up} {
		for n := range x {
			l := call(x, n)
			want := slices.Clone(l)
			for i := range l {
				l[i] = -7
			}
			if !reflect.DeepEqual(x, sample()) {
				t.Fatal("R5: the tree is changed by a change of the answer")
			}
			if got := call(x, n); !slices.Equal(got, want) {
				t.Errorf("R6: %v, then %v", want, got)
			}
		}
	}
}
