package chain_test

import (
	"math/rand"
	"reflect"
	"slices"
	"testing"

	"limelight/api"
	"limelight/chain"
	"limelight/tree"
)

// lost and won are the events of a change at one end of it.
func lost(old, related int) []api.Event {
	return []api.Event{
		{Type: 1, Target: old, Related: related, Composed: true},
		{Type: 3, Target: old, Related: related, Composed: true, Bubbles: true},
	}
}

func won(next, related int) []api.Event {
	return []api.Event{
		{Type: 0, Target: next, Related: related, Composed: true},
		{Type: 2, Target: next, Related: related, Composed: true, Bubbles: true},
	}
}

func events(t *testing.T, x api.Tree, old, next int, want []api.Event) {
	t.Helper()
	if got := chain.Events(x, old, next); !slices.Equal(got, want) {
		t.Errorf("P15.2: from %d to %d: %+v, not %+v", old, next, got, want)
	}
}

func TestChain(t *testing.T) {
	for name, x := range map[string]api.Tree{"sample": sample(), "deep": nest(), "a document alone": tree.New()} {
		for n := range x {
			want := []int{n, 0}
			if n == 0 {
				want = []int{0}
			}
			if got := chain.Chain(x, n); !slices.Equal(got, want) {
				t.Errorf("P15.1: %s: %d: %v", name, n, got)
			}
		}
	}
}

func TestEvents(t *testing.T) {
	x := sample()
	// Two nodes tell four events, wherever they stand: in one shadow, in two, in none, or not connected.
	for _, c := range [][2]int{{4, 2}, {2, 4}, {6, 7}, {7, 6}, {9, 4}, {4, 9}, {9, 14}, {12, 4}, {1, 4}, {4, 1}, {1, 6}, {6, 1}, {5, 8}, {3, 13}} {
		events(t, x, c[0], c[1], append(lost(c[0], c[1]), won(c[1], c[0])...))
	}
	// The viewport tells nothing, and is told to nobody.
	for _, n := range []int{1, 3, 4, 5, 7, 9, 12, 14} {
		events(t, x, n, 0, lost(n, -1))
		events(t, x, 0, n, won(n, -1))
	}
}

// TestItself is about P15.4.
func TestItself(t *testing.T) {
	for _, x := range []api.Tree{sample(), nest(), tree.New()} {
		for n := range x {
			if got := chain.Events(x, n, n); len(got) != 0 {
				t.Errorf("P15.4: %d: %v", n, got)
			}
		}
	}
}

func TestActive(t *testing.T) {
	x := sample()
	// By focus: who is active in the roots 0, 5, 8, 10 and 13; all others are no roots.
	roots := []int{0, 5, 8, 10, 13}
	for focus, want := range [][]int{
		{0, -1, -1, -1, -1}, {1, -1, -1, -1, -1}, {2, -1, -1, -1, -1}, {3, -1, -1, -1, -1}, {4, -1, -1, -1, -1},
		{1, -1, -1, -1, -1}, {1, 6, -1, -1, -1}, {1, 7, -1, -1, -1}, {1, 6, -1, -1, -1}, {1, 6, 9, -1, -1}, {2, -1, -1, -1, -1},
		{0, -1, -1, -1, -1}, {0, -1, -1, -1, -1}, {0, -1, -1, -1, -1}, {0, -1, -1, -1, 14},
	} {
		for root := range x {
			active := -1
			if i := slices.Index(roots, root); i >= 0 {
				active = want[i]
			}
			if got := chain.Active(x, focus, root); got != active {
				t.Errorf("P15.3: focus %d, root %d: %d, not %d", focus, root, got, active)
			}
		}
	}
}

// TestExample: the chapter's one.
func TestExample(t *testing.T) {
	x := tree.New()
	for range 5 {
		x, _, _ = tree.Make(x, api.Element, api.Button)
	}
	events(t, x, 3, 5, []api.Event{
		{Type: api.Blur, Target: 3, Related: 5, Composed: true},
		{Type: api.FocusOut, Target: 3, Related: 5, Composed: true, Bubbles: true},
		{Type: api.Focus, Target: 5, Related: 3, Composed: true},
		{Type: api.FocusIn, Target: 5, Related: 3, Composed: true, Bubbles: true},
	})
}

func TestDeep(t *testing.T) {
	x := nest()
	in := len(x) - 1
	for n := range x {
		active := -1
		switch {
		case n == 0:
			active = 1
		case x[n].Kind == api.Shadow && n+1 < len(x):
			active = n + 1
		}
		if got := chain.Active(x, in, n); got != active {
			t.Errorf("P15.3: root %d: %d, not %d", n, got, active)
		}
	}
	events(t, x, in, 1, append(lost(in, 1), won(1, in)...))
}

func TestNoNode(t *testing.T) {
	for _, x := range []api.Tree{sample(), tree.New()} {
		for _, bad := range outside(len(x)) {
			if got := chain.Chain(x, bad); len(got) != 0 {
				t.Errorf("P15.1: %d: %v", bad, got)
			}
			toldNothing(t, x, bad, bad)
			for n := range x {
				toldNothing(t, x, bad, n)
				toldNothing(t, x, n, bad)
			}
		}
	}
}

func TestNoTree(t *testing.T) {
	for name, x := range spoiled(t) {
		for n := -1; n <= len(x); n++ {
			if got := chain.Chain(x, n); len(got) != 0 {
				t.Errorf("P15.1: %d: %v", n, got)
			}
			for b := -1; b <= len(x); b++ {
				toldNothing(t, x, n, b)
			}
		}
		if t.Failed() {
			t.Fatal(name)
		}
	}
}

func toldNothing(t *testing.T, x api.Tree, a, b int) {
	t.Helper()
	if got := chain.Events(x, a, b); len(got) != 0 {
		t.Errorf("P15.2: from %d to %d: %v", a, b, got)
	}
	if got := chain.Active(x, a, b); got != -1 {
		t.Errorf("P15.3: focus %d, root %d: %d", a, b, got)
	}
}

// activeOf says the words of P15.3 again: the node at the foot of root, on the way up from the focus.
func activeOf(x api.Tree, focus, root int) int {
	if x[root].Kind != api.Shadow && x[root].Kind != api.Document {
		return -1
	}
	for n := focus; n != -1; {
		if x[n].Kind == api.Shadow {
			n = x[n].Host
			continue
		}
		top := n
		for x[top].Parent != -1 {
			top = x[top].Parent
		}
		if top == root && n != root {
			return n
		}
		n = -1
		if x[top].Kind == api.Shadow {
			n = x[top].Host
		}
	}
	if root == 0 {
		return 0
	}
	return -1
}

func TestAgainstTheWords(t *testing.T) {
	r := rand.New(rand.NewSource(15))
	document, shadow, nobody, none := 0, 0, 0, 0
	for range 250 {
		x := grow(r, r.Intn(160))
		kept := tree.Copy(x)
		for a := range x {
			for b := range x {
				want := activeOf(x, a, b)
				if got := chain.Active(x, a, b); got != want {
					t.Fatalf("P15.3: focus %d, root %d: %d, not %d: %+v", a, b, got, want, x)
				}
				switch {
				case b == 0 && want != 0:
					document++
				case want > 0 && x[b].Kind == api.Shadow:
					shadow++
				case b == 0:
					nobody++
				case x[b].Kind == api.Shadow:
					none++
				}
				anyEvents(t, x, a, b)
			}
		}
		if !reflect.DeepEqual(x, kept) {
			t.Fatal("R5: the tree is changed")
		}
	}
	if document < 250 || shadow < 250 || nobody < 1000 || none < 1000 {
		t.Fatalf("too few: %d, %d, %d, %d", document, shadow, nobody, none)
	}
}

func anyEvents(t *testing.T, x api.Tree, a, b int) {
	t.Helper()
	var want []api.Event
	other := func(n int) int {
		if n == 0 {
			return -1
		}
		return n
	}
	if a != b && a != 0 {
		want = append(want, lost(a, other(b))...)
	}
	if a != b && b != 0 {
		want = append(want, won(b, other(a))...)
	}
	events(t, x, a, b, want)
}

// TestOwnMemory: what is answered is nobody else's, and the same again is the same.
func TestOwnMemory(t *testing.T) {
	x := sample()
	for n := range x {
		first, second := chain.Chain(x, n), chain.Chain(x, n)
		kept := slices.Clone(second)
		clear(first[:cap(first)])
		if !slices.Equal(second, kept) || !slices.Equal(chain.Chain(x, n), kept) {
			t.Errorf("R5, R6: Chain of %d", n)
		}
		gone, others := chain.Events(x, n, 4), chain.Events(x, n, 4)
		same := slices.Clone(others)
		clear(gone[:cap(gone)])
		if !slices.Equal(others, same) || !slices.Equal(chain.Events(x, n, 4), same) {
			t.Errorf("R5, R6: Events of %d", n)
		}
	}
	if !reflect.DeepEqual(x, sample()) {
		t.Error("R5: the tree is changed")
	}
}
