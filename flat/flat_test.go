package flat_test

import (
	"math/rand"
	"reflect"
	"slices"
	"testing"

	"limelight/api"
	"limelight/attr"
	"limelight/flat"
	"limelight/slots"
	"limelight/tree"
)

// same holds all answers about x against the kids that are wanted (nothing of whom is not named), and the list.
func same(t *testing.T, x api.Tree, kids map[int][]int, list ...int) {
	t.Helper()
	if tree.Check(x) != api.OK {
		t.Fatal("the sample may not be")
	}
	if got := flat.List(x); !slices.Equal(got, list) {
		t.Errorf("P6.3: List: %v, not %v", got, list)
	}
	parents := make([]int, len(x))
	for n := range x {
		parents[n] = -1
	}
	for n, l := range kids {
		for _, kid := range l {
			parents[kid] = n
		}
	}
	for n := range x {
		if got := flat.Kids(x, n); !slices.Equal(got, kids[n]) {
			t.Errorf("P6.1: Kids of %d: %v, not %v", n, got, kids[n])
		}
		if got := flat.Parent(x, n); got != parents[n] {
			t.Errorf("P6.2: Parent of %d: %d, not %d", n, got, parents[n])
		}
		var up []int
		for at := n; at != -1; at = parents[at] {
			up = append(up, at)
		}
		if got := flat.Up(x, n); !slices.Equal(got, up) {
			t.Errorf("P6.3: Up of %d: %v, not %v", n, got, up)
		}
		if got := flat.Has(x, n); got != slices.Contains(list, n) {
			t.Errorf("P6.3: Has of %d: %v", n, got)
		}
		for a := range x {
			if got := flat.Above(x, a, n); got != slices.Contains(up, a) {
				t.Errorf("P6.3: Above of %d and %d: %v", a, n, got)
			}
		}
	}
}

// shown: whose kids are which in the sample. 5 and 14 have no slot, 11 is in a slot that has others; 21 and 22 hang on 19.
func shown() map[int][]int {
	return map[int][]int{0: {1, 2}, 1: {9, 10}, 2: {6}, 3: {7}, 5: {8}, 9: {3, 4}, 10: {12}, 12: {15}, 13: {16}, 15: {13}, 19: {22}, 22: {21}}
}

func TestSample(t *testing.T) {
	same(t, sample(), shown(), 0, 1, 9, 3, 7, 4, 10, 12, 15, 13, 16, 2, 6)
}

func TestUp(t *testing.T) {
	x := sample()
	for n, want := range map[int][]int{
		0: {0}, 7: {7, 3, 9, 1, 0}, 16: {16, 13, 15, 12, 10, 1, 0}, 8: {8, 5}, 11: {11}, 17: {17}, 21: {21, 22, 19},
	} {
		if got := flat.Up(x, n); !slices.Equal(got, want) {
			t.Errorf("P6.3: Up of %d: %v, not %v", n, got, want)
		}
	}
}

// TestSlotInSlot: 3 and 4 are laid into 13, which is itself laid into 15; 9 shows its own kid in their place.
func TestSlotInSlot(t *testing.T) {
	kids := shown()
	kids[9], kids[13] = []int{11}, []int{3, 4}
	same(t, with(sample(), 9, api.Name, 3), kids, 0, 1, 9, 11, 10, 12, 15, 13, 3, 7, 4, 2, 6)
}

// TestSlotInNoSlot: who is laid into a slot that is not seen itself is not seen, but has it as a parent.
func TestSlotInNoSlot(t *testing.T) {
	kids := shown()
	kids[9], kids[13] = []int{11}, []int{3, 4}
	delete(kids, 15)
	same(t, with(with(sample(), 9, api.Name, 3), 15, api.Name, 7), kids, 0, 1, 9, 11, 10, 12, 15, 2, 6)
}

// TestSlotAsHost: a slot with a Root shows that, so those who are laid into it, and its kids, are not seen.
func TestSlotAsHost(t *testing.T) {
	kids := shown()
	kids[9], kids[23] = []int{24}, nil
	x := append(over(sample(), 9, 24), el(api.Button, 23))
	same(t, x, kids, 0, 1, 9, 24, 10, 12, 15, 13, 16, 2, 6)
	if slots.Of(x, 3) != 9 || flat.Parent(x, 3) != -1 {
		t.Error("P6.2: 3 is laid into 9, which does not show it")
	}
	// 11 is a kid of the host 9 now: a slot in that one's Shadow shows it.
	x[24].Tag = api.Slot
	kids[24] = []int{11}
	same(t, x, kids, 0, 1, 9, 24, 11, 10, 12, 15, 13, 16, 2, 6)
}

func TestManual(t *testing.T) {
	kids := shown()
	kids[9], kids[10] = []int{11}, []int{5}
	x := with(with(sample(), 17, api.Manual, 0), 5, api.SlotAt, 10)
	same(t, x, kids, 0, 1, 9, 11, 10, 5, 8, 2, 6)
	x, _ = attr.Drop(x, 5, api.SlotAt)
	kids[10] = []int{12}
	same(t, x, kids, 0, 1, 9, 11, 10, 12, 15, 13, 16, 2, 6)
}

func TestMoved(t *testing.T) {
	// A lone host that is given a place is seen with all that lies in it.
	kids := shown()
	kids[6] = []int{19}
	same(t, into(sample(), 6, 19), kids, 0, 1, 9, 3, 7, 4, 10, 12, 15, 13, 16, 2, 6, 19, 22, 21)
	// And one that is removed is not, but stays above all that lies in it.
	x, _ := tree.Remove(sample(), 1)
	kids = shown()
	kids[0] = []int{2}
	same(t, x, kids, 0, 2, 6)
}

// TestOutsideShadows: a slot that is in no Shadow is as others are.
func TestOutsideShadows(t *testing.T) {
	x := into(sample(), 2, 9)
	kids := shown()
	kids[1], kids[2], kids[9], kids[13] = []int{10}, []int{6, 9}, []int{11}, []int{3, 4}
	same(t, x, kids, 0, 1, 10, 12, 15, 13, 3, 7, 4, 2, 6, 9, 11)
}

// TestExample: the chapter's one.
func TestExample(t *testing.T) {
	x := over(api.Tree{{Kind: api.Document, Parent: -1, Kids: []int{1}, Host: -1, Root: -1}, el(api.Box, 0, 2), el(api.Box, 1)}, 1)
	same(t, x, map[int][]int{0: {1}}, 0, 1)
}

func TestDocumentAlone(t *testing.T) {
	same(t, tree.New(), nil, 0)
}

func TestDeep(t *testing.T) {
	x := tunnel()
	want := []int{1}
	for slot := 4; slot < len(x); slot += 3 {
		want = append(want, slot)
	}
	for host := len(x) - 3; host > 0; host -= 3 {
		want = append(want, host)
	}
	want = append(want, 0)
	if got := flat.Up(x, 1); len(want) != 42 || !slices.Equal(got, want) {
		t.Errorf("P6.3: Up: %v, not %v", got, want)
	}
	slices.Reverse(want)
	if got := flat.List(x); !slices.Equal(got, want) {
		t.Errorf("P6.3: List: %v, not %v", got, want)
	}
}

func TestNoNode(t *testing.T) {
	x := sample()
	for _, bad := range outside(len(x)) {
		toldNothing(t, x, bad)
		for n := range x {
			if flat.Above(x, n, bad) || flat.Above(x, bad, n) {
				t.Errorf("P6.3: Above of %d and %d", n, bad)
			}
		}
	}
}

func TestNoTree(t *testing.T) {
	for name, x := range spoiled(t) {
		if l := flat.List(x); len(l) != 0 {
			t.Errorf("P6.3: List: %v", l)
		}
		for n := -1; n <= len(x); n++ {
			toldNothing(t, x, n)
			if flat.Above(x, 0, n) || flat.Above(x, n, 0) {
				t.Errorf("P6.3: Above of 0 and %d", n)
			}
		}
		if t.Failed() {
			t.Fatal(name)
		}
	}
}

func toldNothing(t *testing.T, x api.Tree, n int) {
	t.Helper()
	if l := flat.Kids(x, n); len(l) != 0 {
		t.Errorf("P6.1: Kids of %d: %v", n, l)
	}
	if p := flat.Parent(x, n); p != -1 {
		t.Errorf("P6.2: Parent of %d: %d", n, p)
	}
	if l := flat.Up(x, n); len(l) != 0 {
		t.Errorf("P6.3: Up of %d: %v", n, l)
	}
	if flat.Has(x, n) || flat.Above(x, n, n) {
		t.Errorf("P6.3: Has, Above of %d", n)
	}
}

// kidsOf and listOf say the chapter's words again.
func kidsOf(x api.Tree, n int) []int {
	if x[n].Kind == api.Shadow {
		return nil
	}
	if x[n].Kind == api.Element && x[n].Root != -1 {
		return x[x[n].Root].Kids
	}
	if in := slots.Assigned(x, n); len(in) > 0 {
		return in
	}
	return x[n].Kids
}

func listOf(kids map[int][]int, n int) []int {
	l := []int{n}
	for _, kid := range kids[n] {
		l = append(l, listOf(kids, kid)...)
	}
	return l
}

func TestAgainstTheWords(t *testing.T) {
	r := rand.New(rand.NewSource(6))
	laid := 0
	for range 200 {
		x := grow(r, r.Intn(300))
		kept := tree.Copy(x)
		kids := map[int][]int{}
		times := make([]int, len(x))
		for n := range x {
			kids[n] = kidsOf(x, n)
			for _, kid := range flat.Kids(x, n) {
				times[kid]++
				if slots.Of(x, kid) != -1 {
					laid++
				}
			}
		}
		if slices.Max(times) > 1 {
			t.Fatalf("P6.4: somebody is among the kids of two: %+v", x)
		}
		same(t, x, kids, listOf(kids, 0)...)
		if t.Failed() {
			t.Fatalf("%+v", x)
		}
		if !reflect.DeepEqual(x, kept) {
			t.Fatal("R5: the tree is changed")
		}
	}
	if laid < 200 {
		t.Fatalf("the trees have too few that are seen in slots: %d", laid)
	}
}

// TestOwnMemory: what is answered is nobody else's, and the same again is the same.
func TestOwnMemory(t *testing.T) {
	x := sample()
	all := func(x api.Tree, _ int) []int { return flat.List(x) }
	for _, call := range []func(api.Tree, int) []int{flat.Kids, flat.Up, all} {
		for n := range x {
			l := call(x, n)
			want := slices.Clone(l)
			for i := range l {
				l[i] = -7
			}
			_ = append(l, -7)
			if !reflect.DeepEqual(x, sample()) {
				t.Fatal("R5: the tree is changed by a change of the answer")
			}
			if got := call(x, n); !slices.Equal(got, want) {
				t.Errorf("R6: %v, then %v", want, got)
			}
		}
	}
}
