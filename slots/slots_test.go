package slots_test

import (
	"math/rand"
	"reflect"
	"slices"
	"testing"

	"limelight/api"
	"limelight/attr"
	"limelight/slots"
	"limelight/tree"
)

func TestAll(t *testing.T) {
	x := sample()
	if tree.Check(x) != api.OK {
		t.Fatal("the sample may not be")
	}
	// In the order of the tree, not of the numbers; the slots of 18 are not 17's.
	want := map[int][]int{17: {12, 10, 9, 13}, 18: {15, 14}, 19: {20}}
	for n := range x {
		if got := slots.All(x, n); !slices.Equal(got, want[n]) {
			t.Errorf("P5.1: All of %d: %v, not %v", n, got, want[n])
		}
	}
}

func TestAllOfNoSlots(t *testing.T) {
	x := over(api.Tree{{Kind: api.Document, Parent: -1, Kids: []int{1}, Host: -1, Root: -1}, el(api.Slot, 0, 2), el(api.Slot, 1), el(api.Box, 4)}, 1, 3)
	for n := range x {
		if got := slots.All(x, n); len(got) != 0 {
			t.Errorf("P5.1: All of %d: %v", n, got)
		}
		if got := slots.Of(x, n); got != -1 {
			t.Errorf("P5.2: Of of %d: %d", n, got)
		}
	}
}

// same holds the answers of all nodes of x against those that are wanted: -1, and nothing, of whom is not named.
func same(t *testing.T, x api.Tree, of map[int]int) {
	t.Helper()
	in := make([][]int, len(x))
	for _, host := range x {
		for _, kid := range host.Kids {
			if slot, is := of[kid]; is {
				in[slot] = append(in[slot], kid)
			}
		}
	}
	for n := range x {
		want, is := of[n]
		if !is {
			want = -1
		}
		if got := slots.Of(x, n); got != want {
			t.Errorf("P5.2: Of of %d: %d, not %d", n, got, want)
		}
		if got := slots.Assigned(x, n); !slices.Equal(got, in[n]) {
			t.Errorf("P5.3: Assigned of %d: %v, not %v", n, got, in[n])
		}
	}
}

func TestByName(t *testing.T) {
	x := sample()
	// 12 and 9 have no name, as 4 (a Text), and 7, which has 0: the first one takes them. 5 has a name that no slot has.
	// 9 and 13, slots themselves, are kids of the host 11. 8 is no kid of a host, and 12 and 15 are kids of Shadows.
	same(t, x, map[int]int{3: 10, 4: 12, 6: 10, 7: 12, 9: 14, 13: 15, 21: 20})
	x = with(x, 12, api.Name, 2)
	same(t, x, map[int]int{3: 10, 4: 9, 5: 12, 6: 10, 7: 9, 9: 14, 13: 15, 21: 20})
	x = with(x, 9, api.Name, api.MaxValue-1)
	same(t, x, map[int]int{3: 10, 5: 12, 6: 10, 13: 15, 21: 20})
	x = with(x, 7, api.Name, api.MaxValue-1)
	same(t, x, map[int]int{3: 10, 5: 12, 6: 10, 7: 9, 13: 15, 21: 20})
	// Without its Name 10 is behind 9 no more: it is the first one without.
	x, _ = attr.Drop(x, 10, api.Name)
	same(t, x, map[int]int{3: 13, 4: 10, 5: 12, 6: 13, 7: 9, 13: 15, 21: 20})
}

func TestOrderOfSlots(t *testing.T) {
	x := sample()
	x, _ = tree.Insert(x, tree.Place{Parent: 17, Child: 11, Before: 12})
	if got := slots.All(x, 17); !slices.Equal(got, []int{9, 13, 12, 10}) {
		t.Errorf("P5.1: %v", got)
	}
	same(t, x, map[int]int{3: 13, 4: 9, 6: 13, 7: 9, 9: 14, 13: 15, 21: 20})
}

func TestOrderOfKids(t *testing.T) {
	x := sample()
	x, _ = tree.Insert(x, tree.Place{Parent: 1, Child: 7, Before: 3})
	x, _ = tree.Insert(x, tree.Place{Parent: 1, Child: 3, Before: -1})
	if got := slots.Assigned(x, 12); !slices.Equal(got, []int{7, 4}) {
		t.Errorf("P5.3: %v", got)
	}
	if got := slots.Assigned(x, 10); !slices.Equal(got, []int{6, 3}) {
		t.Errorf("P5.3: %v", got)
	}
}

func TestNumbersWithoutManual(t *testing.T) {
	x := with(with(sample(), 3, api.SlotAt, 12), 5, api.SlotAt, 9)
	same(t, x, map[int]int{3: 10, 4: 12, 6: 10, 7: 12, 9: 14, 13: 15, 21: 20})
}

func TestByNumber(t *testing.T) {
	x := with(sample(), 17, api.Manual, 0)
	// 18 goes by names as before: to be Manual is a Shadow's own.
	same(t, x, map[int]int{9: 14, 13: 15, 21: 20})
	for slot := range api.MaxNodes {
		of := map[int]int{9: 14, 13: 15, 21: 20}
		if slices.Contains([]int{9, 10, 12, 13}, slot) {
			of[5] = slot
		}
		same(t, with(x, 5, api.SlotAt, slot), of)
	}
	// Several lie in one, in the order of the kids; names do not count; who has a number, but lies elsewhere, stays there.
	x = with(with(with(with(x, 7, api.SlotAt, 9), 3, api.SlotAt, 9), 6, api.SlotAt, 12), 8, api.SlotAt, 9)
	same(t, with(x, 9, api.SlotAt, 15), map[int]int{3: 9, 7: 9, 6: 12, 9: 14, 13: 15, 21: 20})
	// Both by numbers: 13 may not lie in a slot of the Shadow that it is in itself.
	x = with(with(with(x, 18, api.Manual, 0), 9, api.SlotAt, 15), 13, api.SlotAt, 12)
	same(t, x, map[int]int{3: 9, 7: 9, 6: 12, 9: 15, 21: 20})
	x, _ = attr.Drop(x, 17, api.Manual)
	same(t, x, map[int]int{3: 10, 4: 12, 6: 10, 7: 12, 9: 15, 21: 20})
}

// TestSlotAsHost: a slot with a Shadow of its own is a slot all the same, and its kids are a host's.
func TestSlotAsHost(t *testing.T) {
	x := over(sample(), 12, 23)
	x = with(append(x, el(api.Slot, 22)), 23, api.Name, 1)
	same(t, x, map[int]int{3: 10, 4: 12, 6: 10, 7: 12, 9: 14, 10: 23, 13: 15, 21: 20})
}

// TestExample: the chapter's one.
func TestExample(t *testing.T) {
	x := over(api.Tree{{Kind: api.Document, Parent: -1, Kids: []int{1}, Host: -1, Root: -1}, el(api.Box, 0, 2, 3), el(api.Box, 1), text(1), el(api.Slot, 6), el(api.Slot, 6)}, 1, 5, 4)
	same(t, x, map[int]int{2: 5, 3: 5})
}

func TestWide(t *testing.T) {
	x := wide()
	if len(x) != api.MaxNodes {
		t.Fatalf("%d nodes", len(x))
	}
	of := map[int]int{}
	for name := 1; name <= 30; name++ {
		of[33+name] = 33 - name
	}
	same(t, x, of)
}

func TestNoNode(t *testing.T) {
	x := sample()
	for _, bad := range outside(len(x)) {
		toldNothing(t, x, bad)
	}
}

func TestNoTree(t *testing.T) {
	for name, x := range spoiled(t) {
		for n := -1; n <= len(x); n++ {
			toldNothing(t, x, n)
		}
		if t.Failed() {
			t.Fatal(name)
		}
	}
}

func toldNothing(t *testing.T, x api.Tree, n int) {
	t.Helper()
	if l := slots.All(x, n); len(l) != 0 {
		t.Errorf("P5.1: All of %d: %v", n, l)
	}
	if s := slots.Of(x, n); s != -1 {
		t.Errorf("P5.2: Of of %d: %d", n, s)
	}
	if l := slots.Assigned(x, n); len(l) != 0 {
		t.Errorf("P5.3: Assigned of %d: %v", n, l)
	}
}

// topOf, valueOf, allOf, slotOf and assignedOf say the chapter's words again.
func topOf(x api.Tree, n int) int {
	for x[n].Parent != -1 {
		n = x[n].Parent
	}
	return n
}

func valueOf(x api.Tree, n int, name int) (int, bool) {
	for _, a := range x[n].Attrs {
		if a.Name == name {
			return a.Value, true
		}
	}
	return 0, false
}

func allOf(x api.Tree, root int) []int {
	var all []int
	var visit func(n int)
	visit = func(n int) {
		if x[n].Kind == api.Element && x[n].Tag == api.Slot {
			all = append(all, n)
		}
		for _, kid := range x[n].Kids {
			visit(kid)
		}
	}
	if x[root].Kind == api.Shadow {
		visit(root)
	}
	return all
}

func slotOf(x api.Tree, n int) int {
	if x[n].Parent == -1 || x[x[n].Parent].Root == -1 {
		return -1
	}
	root := x[x[n].Parent].Root
	at, placed := valueOf(x, n, api.SlotAt)
	name, _ := valueOf(x, n, api.Name)
	_, manual := valueOf(x, root, api.Manual)
	for _, slot := range allOf(x, root) {
		its, _ := valueOf(x, slot, api.Name)
		if manual && placed && at == slot || !manual && its == name {
			return slot
		}
	}
	return -1
}

func assignedOf(x api.Tree, slot int) []int {
	top := topOf(x, slot)
	if x[top].Kind != api.Shadow || x[slot].Kind != api.Element || x[slot].Tag != api.Slot {
		return nil
	}
	var in []int
	for _, kid := range x[x[top].Host].Kids {
		if slotOf(x, kid) == slot {
			in = append(in, kid)
		}
	}
	return in
}

func TestAgainstTheWords(t *testing.T) {
	r := rand.New(rand.NewSource(5))
	found := 0
	for range 400 {
		x := grow(r, r.Intn(300))
		kept := tree.Copy(x)
		times := make([]int, len(x))
		for n := range x {
			if !slices.Equal(slots.All(x, n), allOf(x, n)) {
				t.Fatalf("P5.1: %d of %+v", n, x)
			}
			if slots.Of(x, n) != slotOf(x, n) {
				t.Fatalf("P5.2: %d of %+v", n, x)
			}
			in := slots.Assigned(x, n)
			if !slices.Equal(in, assignedOf(x, n)) {
				t.Fatalf("P5.3: %d of %+v", n, x)
			}
			for _, kid := range in {
				times[kid]++
				found++
			}
		}
		for n, many := range times {
			if many > 1 || (many == 1) != (slots.Of(x, n) != -1) {
				t.Fatalf("P5.4: %d is laid into %d slots of %+v", n, many, x)
			}
		}
		if !reflect.DeepEqual(x, kept) {
			t.Fatal("R5: the tree is changed")
		}
	}
	if found < 400 {
		t.Fatalf("the trees have too few that are laid into slots: %d", found)
	}
}

// TestOwnMemory: what is answered is nobody else's, and the same again is the same.
func TestOwnMemory(t *testing.T) {
	x := sample()
	for _, call := range []func(api.Tree, int) []int{slots.All, slots.Assigned} {
		for n := range x {
			l := call(x, n)
			want := slices.Clone(l)
			for i := range l {
				l[i] = -7
			}
			if !reflect.DeepEqual(x, sample()) {
				t.Fatal("R5: the tree is changed by a change of the answer")
			}
			if got := call(x, n); !slices.Equal(got, want) {
				t.Errorf("R6: %v, then %v", want, got)
			}
		}
	}
}
