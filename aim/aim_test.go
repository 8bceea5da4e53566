package aim_test

import (
	"math/rand"
	"reflect"
	"slices"
	"testing"

	"limelight/aim"
	"limelight/api"
	"limelight/order"
	"limelight/shade"
	"limelight/slots"
	"limelight/tree"
)

// stops takes nodes, targets and those related by turns.
func stops(numbers ...int) []aim.Stop {
	var l []aim.Stop
	for i := 0; i < len(numbers); i += 3 {
		l = append(l, aim.Stop{Node: numbers[i], Target: numbers[i+1], Related: numbers[i+2]})
	}
	return l
}

// way is a path on which all are told the same.
func way(target int, related int, nodes ...int) []aim.Stop {
	var l []aim.Stop
	for _, n := range nodes {
		l = append(l, aim.Stop{Node: n, Target: target, Related: related})
	}
	return l
}

func TestParent(t *testing.T) {
	x := sample()
	if tree.Check(x) != api.OK {
		t.Fatal("the sample may not be")
	}
	// By a slot: 3, 4, 13 and 21; from a Shadow to its Host: 17, 18 and 20.
	want := []int{-1, 0, 0, 9, 9, 1, 2, 3, 5, 17, 17, 9, 10, 15, 12, 18, 13, 1, 12, -1, 19, 22, 20}
	tops := []int{0, 0, 0, 0, 0, 0, 0, 0, 0, 17, 17, 17, 17, 17, 17, 18, 17, 17, 18, 19, 20, 19, 20}
	for n := range x {
		for target := range x {
			if got := aim.Parent(x, n, api.Event{Target: target, Composed: true}); got != want[n] {
				t.Errorf("P7.1: Composed: of %d, at %d: %d, not %d", n, target, got, want[n])
			}
			apart := want[n]
			if x[n].Kind == api.Shadow && tops[target] == n {
				apart = -1
			}
			if got := aim.Parent(x, n, api.Event{Target: target}); got != apart {
				t.Errorf("P7.1: not Composed: of %d, at %d: %d, not %d", n, target, got, apart)
			}
		}
	}
}

func TestPathComposed(t *testing.T) {
	x := sample()
	for target, want := range map[int][]aim.Stop{
		0: way(0, -1, 0), 1: way(1, -1, 1, 0), 6: way(6, -1, 6, 2, 0),
		3: way(3, -1, 3, 9, 17, 1, 0), 4: way(4, -1, 4, 9, 17, 1, 0), 7: way(7, -1, 7, 3, 9, 17, 1, 0), // by the slot 9
		5: way(5, -1, 5, 1, 0), 8: way(8, -1, 8, 5, 1, 0), // without a slot
		11: append(way(11, -1, 11, 9, 17), way(1, -1, 1, 0)...),
		14: append(way(14, -1, 14, 12, 10, 17), way(1, -1, 1, 0)...),
		16: append(way(16, -1, 16, 13, 15, 18, 12, 10, 17), way(1, -1, 1, 0)...), // through a shadow that lies deeper
		15: slices.Concat(way(15, -1, 15, 18), way(12, -1, 12, 10, 17), way(1, -1, 1, 0)),
		18: slices.Concat(way(18, -1, 18), way(12, -1, 12, 10, 17), way(1, -1, 1, 0)),
		17: append(way(17, -1, 17), way(1, -1, 1, 0)...),
		19: way(19, -1, 19), 21: way(21, -1, 21, 22, 20, 19), 22: append(way(22, -1, 22, 20), way(19, -1, 19)...), // in no document
	} {
		if got := aim.Path(x, api.Event{Target: target, Related: -1, Composed: true}); !slices.Equal(got, want) {
			t.Errorf("P7.2: at %d: %v, not %v", target, got, want)
		}
	}
}

func TestPathNotComposed(t *testing.T) {
	x := sample()
	for target, nodes := range map[int][]int{
		0: {0}, 1: {1, 0}, 3: {3, 9, 17, 1, 0}, 8: {8, 5, 1, 0}, 19: {19}, 21: {21, 22, 20, 19}, // shadows that do not hold the target
		11: {11, 9, 17}, 14: {14, 12, 10, 17}, 16: {16, 13, 15, 18, 12, 10, 17}, 17: {17}, 15: {15, 18}, 18: {18}, 22: {22, 20},
	} {
		if got, want := aim.Path(x, api.Event{Target: target, Related: -1}), way(target, -1, nodes...); !slices.Equal(got, want) {
			t.Errorf("P7.2: at %d: %v, not %v", target, got, want)
		}
	}
}

func TestPathRelated(t *testing.T) {
	x := sample()
	for _, c := range []struct {
		target, related int
		composed        bool
		want            []aim.Stop
	}{
		{6, 5, true, way(6, 5, 6, 2, 0)}, {6, 16, true, way(6, 1, 6, 2, 0)}, {6, 15, true, way(6, 1, 6, 2, 0)}, {6, 22, true, way(6, 19, 6, 2, 0)},
		// Both in the one shadow, and one of them in another one, too.
		{11, 14, true, way(11, 14, 11, 9, 17)}, {15, 16, true, append(way(15, 16, 15, 18), way(12, 16, 12, 10, 17)...)},
		{16, 15, true, stops(16, 16, 12, 13, 16, 12, 15, 16, 15, 18, 16, 15, 12, 16, 12, 10, 16, 12, 17, 16, 12)},
		{15, 16, false, way(15, 16, 15, 18)}, {11, 14, false, way(11, 14, 11, 9, 17)},
		// The host of the target's shadow.
		{11, 1, true, way(11, 1, 11, 9, 17)}, {15, 12, true, way(15, 12, 15, 18)}, {22, 19, true, way(22, 19, 22, 20)}, {18, 12, true, way(18, 12, 18)},
		// It lies in the target's own shadow: not even the target is told.
		{1, 11, true, nil}, {1, 17, true, nil}, {1, 15, true, nil}, {12, 15, true, nil}, {12, 18, false, nil}, {19, 22, false, nil},
		// Kids of hosts, that lie in slots, are not in the shadow.
		{16, 3, true, append(way(16, 3, 16, 13, 15, 18, 12, 10, 17), way(1, 3, 1, 0)...)},
		{7, 16, true, stops(7, 7, 1, 3, 7, 1, 9, 7, 16, 17, 7, 16, 1, 7, 1, 0, 7, 1)}, {3, 9, true, stops(3, 3, 1, 9, 3, 9, 17, 3, 9, 1, 3, 1, 0, 3, 1)},
		// The host's parent, which is told of both.
		{11, 0, true, append(way(11, 0, 11, 9, 17), way(1, 0, 1, 0)...)},
		// The target itself: the way goes on.
		{6, 6, true, way(6, 6, 6, 2, 0)}, {0, 0, false, way(0, 0, 0)}, {16, 16, false, way(16, 16, 16, 13, 15, 18, 12, 10, 17)},
		{15, 15, true, slices.Concat(way(15, 15, 15, 18), way(12, 12, 12, 10, 17), way(1, 1, 1, 0))},
	} {
		if got := aim.Path(x, api.Event{Target: c.target, Related: c.related, Composed: c.composed}); !slices.Equal(got, c.want) {
			t.Errorf("P7.2: at %d, with %d: %v, not %v", c.target, c.related, got, c.want)
		}
	}
	for _, bad := range outside(len(x)) {
		if got := aim.Path(x, api.Event{Target: 6, Related: bad}); !slices.Equal(got, way(6, -1, 6, 2, 0)) {
			t.Errorf("P7.2: with %d: %v", bad, got)
		}
	}
}

// TestPathByHand: a Manual shadow's slots are ways, too, and a name is none there.
func TestPathByHand(t *testing.T) {
	x := with(with(sample(), 17, api.Manual, 0), 5, api.SlotAt, 10)
	for target, nodes := range map[int][]int{8: {8, 5, 10, 17, 1, 0}, 7: {7, 3, 1, 0}} {
		if got, want := aim.Path(x, api.Event{Target: target, Related: -1}), way(target, -1, nodes...); !slices.Equal(got, want) {
			t.Errorf("P7.2: at %d: %v, not %v", target, got, want)
		}
	}
}

// TestPathSlotAsHost: a slot with a shadow of its own shows nobody who is laid into it, but is on their way all the same.
func TestPathSlotAsHost(t *testing.T) {
	x := append(over(sample(), 9, 24), el(api.Slot, 23))
	for target, want := range map[int][]aim.Stop{
		7:  way(7, -1, 7, 3, 9, 17, 1, 0),
		11: append(way(11, -1, 11, 24, 23, 9, 17), way(1, -1, 1, 0)...),
	} {
		if got := aim.Path(x, api.Event{Target: target, Related: -1, Composed: true}); !slices.Equal(got, want) {
			t.Errorf("P7.2: at %d: %v, not %v", target, got, want)
		}
	}
}

// TestPathOfTypes: what an event is called, and what becomes of it, does not lead it elsewhere.
func TestPathOfTypes(t *testing.T) {
	x := sample()
	for _, kind := range []int{-1, api.Focus, api.Click, api.Types} {
		for _, e := range []api.Event{{Type: kind, Target: 7, Related: -1}, {Type: kind, Target: 7, Related: -1, Bubbles: true}, {Type: kind, Target: 7, Related: -1, Cancel: true}} {
			if got := aim.Path(x, e); !slices.Equal(got, way(7, -1, 7, 3, 9, 17, 1, 0)) {
				t.Errorf("P7.2: %+v: %v", e, got)
			}
			if got := aim.Parent(x, 3, e); got != 9 {
				t.Errorf("P7.1: %+v: %d", e, got)
			}
		}
	}
}

// visits takes nodes, targets, those related and phases by turns; the first ones have Capture.
func visits(captures int, numbers ...int) []aim.Visit {
	var l []aim.Visit
	for i := 0; i < len(numbers); i += 4 {
		s := aim.Stop{Node: numbers[i], Target: numbers[i+1], Related: numbers[i+2]}
		l = append(l, aim.Visit{Stop: s, Phase: numbers[i+3], Capture: len(l) < captures})
	}
	return l
}

func TestVisits(t *testing.T) {
	x := sample()
	for i, c := range []struct {
		e    api.Event
		want []aim.Visit
	}{
		{api.Event{Target: 6, Related: -1, Bubbles: true}, visits(3, 0, 6, -1, 1, 2, 6, -1, 1, 6, 6, -1, 2, 6, 6, -1, 2, 2, 6, -1, 3, 0, 6, -1, 3)},
		{api.Event{Target: 6, Related: 5}, visits(3, 0, 6, 5, 1, 2, 6, 5, 1, 6, 6, 5, 2, 6, 6, 5, 2)},
		{api.Event{Target: 0, Related: -1, Bubbles: true}, visits(1, 0, 0, -1, 2, 0, 0, -1, 2)},
		// Hosts are targets themselves: they are visited At, and though nothing bubbles.
		{api.Event{Target: 15, Related: -1, Composed: true}, visits(7,
			0, 1, -1, 1, 1, 1, -1, 2, 17, 12, -1, 1, 10, 12, -1, 1, 12, 12, -1, 2, 18, 15, -1, 1, 15, 15, -1, 2,
			15, 15, -1, 2, 12, 12, -1, 2, 1, 1, -1, 2)},
		{api.Event{Target: 15, Related: -1, Composed: true, Bubbles: true}, visits(7,
			0, 1, -1, 1, 1, 1, -1, 2, 17, 12, -1, 1, 10, 12, -1, 1, 12, 12, -1, 2, 18, 15, -1, 1, 15, 15, -1, 2,
			15, 15, -1, 2, 18, 15, -1, 3, 12, 12, -1, 2, 10, 12, -1, 3, 17, 12, -1, 3, 1, 1, -1, 2, 0, 1, -1, 3)},
		{api.Event{Target: 15, Related: 16, Bubbles: true}, visits(2, 18, 15, 16, 1, 15, 15, 16, 2, 15, 15, 16, 2, 18, 15, 16, 3)},
		{api.Event{Target: 1, Related: 11, Composed: true, Bubbles: true}, nil},
	} {
		if got := aim.Visits(x, c.e); !slices.Equal(got, c.want) {
			t.Errorf("P7.3: case %d: %v, not %v", i, got, c.want)
		}
	}
}

func TestPhases(t *testing.T) {
	if aim.Down != 1 || aim.At != 2 || aim.Back != 3 {
		t.Error("P7.3: the phases' numbers")
	}
}

// TestExample: the chapter's one.
func TestExample(t *testing.T) {
	x := append(over(api.Tree{{Kind: api.Document, Parent: -1, Kids: []int{1}, Host: -1, Root: -1}, el(api.Box, 0)}, 1, 3), el(api.Button, 2))
	for _, v := range aim.Visits(x, api.Event{Target: 3, Related: -1, Composed: true}) {
		if v.Node == 1 && (v.Target != 1 || v.Phase != aim.At || v.Stop != aim.Stop{Node: 1, Target: 1, Related: -1}) {
			t.Errorf("P7.3: the host: %v", v)
		}
	}
}

// TestDeep: 1 goes through all slots, up to the deepest one, and back by all shadows and hosts.
func TestDeep(t *testing.T) {
	x := tunnel()
	nodes := []int{1}
	for slot := 4; slot < len(x); slot += 3 {
		nodes = append(nodes, slot)
	}
	for host := len(x) - 3; host > 0; host -= 3 {
		nodes = append(nodes, host+1, host)
	}
	nodes = append(nodes, 0)
	if got := aim.Path(x, api.Event{Target: 1, Related: -1}); len(nodes) != 62 || !slices.Equal(got, way(1, -1, nodes...)) {
		t.Errorf("P7.2: %v, not by %v", got, nodes)
	}
	// The deepest slot is seen by each shadow as the host in it; only the first and the last shadow are its own.
	last := len(x) - 1
	want := way(last, -1, last, last-1)
	for host := last - 2; host > 0; host -= 3 {
		want = append(want, way(host, -1, host, max(host-2, 0))...)
	}
	if got := aim.Path(x, api.Event{Target: last, Related: -1, Composed: true}); !slices.Equal(got, want) {
		t.Errorf("P7.2: %v, not %v", got, want)
	}
	if got := aim.Visits(x, api.Event{Target: last, Related: -1, Composed: true}); len(got) != len(want)+21 {
		t.Errorf("P7.3: %d visits", len(got))
	}
}

func TestNoNode(t *testing.T) {
	x := sample()
	for _, bad := range outside(len(x)) {
		for n := range x {
			if got := aim.Parent(x, bad, api.Event{Target: n, Related: -1, Composed: true}); got != -1 {
				t.Errorf("P7.1: Parent of %d: %d", bad, got)
			}
		}
		toldNothing(t, x, bad)
	}
}

func TestNoTree(t *testing.T) {
	for name, x := range spoiled(t) {
		for target := -1; target <= len(x); target++ {
			toldNothing(t, x, target)
		}
		if t.Failed() {
			t.Fatal(name)
		}
	}
}

// toldNothing: at a target that is no node, or in a tree that may not be.
func toldNothing(t *testing.T, x api.Tree, target int) {
	t.Helper()
	for _, related := range []int{-1, 0, target} {
		e := api.Event{Target: target, Related: related, Bubbles: true, Composed: true}
		if l := aim.Path(x, e); len(l) != 0 {
			t.Errorf("P7.2: Path at %d: %v", target, l)
		}
		if l := aim.Visits(x, e); len(l) != 0 {
			t.Errorf("P7.3: Visits at %d: %v", target, l)
		}
	}
	for n := -1; n <= len(x); n++ {
		if p := aim.Parent(x, n, api.Event{Target: target}); p != -1 {
			t.Errorf("P7.1: Parent of %d, at %d: %d", n, target, p)
		}
	}
}

// parentOf, pathOf and visitsOf say the chapter's words again.
func parentOf(x api.Tree, n int, e api.Event) int {
	slot := slots.Of(x, n)
	switch {
	case slot != -1:
		return slot
	case x[n].Kind == api.Shadow && !e.Composed && order.Top(x, e.Target) == n:
		return -1
	case x[n].Kind == api.Shadow:
		return x[n].Host
	}
	return x[n].Parent
}

func pathOf(x api.Tree, e api.Event) []aim.Stop {
	var all []aim.Stop
	for n := e.Target; n != -1; n = parentOf(x, n, e) {
		s := aim.Stop{Node: n, Target: shade.Retarget(x, e.Target, n), Related: -1}
		if e.Related >= 0 && e.Related < len(x) {
			s.Related = shade.Retarget(x, e.Related, n)
		}
		all = append(all, s)
	}
	if e.Target == e.Related {
		return all
	}
	if end := slices.IndexFunc(all, func(s aim.Stop) bool { return s.Target == s.Related }); end >= 0 {
		return all[:end]
	}
	return all
}

func visitsOf(path []aim.Stop, bubbles bool) []aim.Visit {
	var all []aim.Visit
	for i := range path {
		s := path[len(path)-1-i]
		v := aim.Visit{Stop: s, Phase: 1, Capture: true}
		if s.Node == s.Target {
			v.Phase = 2
		}
		all = append(all, v)
	}
	for _, s := range path {
		if s.Node == s.Target {
			all = append(all, aim.Visit{Stop: s, Phase: 2})
		} else if bubbles {
			all = append(all, aim.Visit{Stop: s, Phase: 3})
		}
	}
	return all
}

func TestAgainstTheWords(t *testing.T) {
	r := rand.New(rand.NewSource(7))
	short, laid := 0, 0
	for range 200 {
		x := grow(r, r.Intn(300))
		kept := tree.Copy(x)
		for range 20 {
			e := api.Event{Type: r.Intn(api.Types), Target: r.Intn(len(x)), Related: r.Intn(len(x)+2) - 1, Bubbles: r.Intn(2) == 0, Composed: r.Intn(2) == 0}
			againstTheWords(t, x, e)
			for _, s := range aim.Path(x, e) {
				if slots.Of(x, s.Node) != -1 {
					laid++
				}
			}
			whole := e
			whole.Related = -1
			if len(aim.Path(x, e)) < len(aim.Path(x, whole)) {
				short++
			}
		}
		if !reflect.DeepEqual(x, kept) {
			t.Fatal("R5: the tree is changed")
		}
	}
	if short < 50 || laid < 200 {
		t.Fatalf("too few ways end early, or go by slots: %d, %d", short, laid)
	}
}

func againstTheWords(t *testing.T, x api.Tree, e api.Event) {
	t.Helper()
	for n := range x {
		if got, want := aim.Parent(x, n, e), parentOf(x, n, e); got != want {
			t.Fatalf("P7.1: %d, %+v: %d, not %d: %+v", n, e, got, want, x)
		}
	}
	path := pathOf(x, e)
	if got := aim.Path(x, e); !slices.Equal(got, path) {
		t.Fatalf("P7.2: %+v: %v, not %v: %+v", e, got, path, x)
	}
	all := aim.Visits(x, e)
	if want := visitsOf(path, e.Bubbles); !slices.Equal(all, want) {
		t.Fatalf("P7.3: %+v: %v, not %v: %+v", e, all, want, x)
	}
	for _, v := range all {
		for _, told := range []int{v.Target, v.Related} {
			if told == -1 {
				continue
			}
			if top := order.Top(x, told); x[top].Kind == api.Shadow && !shade.Above(x, top, v.Node) {
				t.Fatalf("P7.4: %d is told of %d, in a shadow that does not hold it: %+v", v.Node, told, x)
			}
		}
	}
}

// TestOwnMemory: what is answered is nobody else's, and the same again is the same.
func TestOwnMemory(t *testing.T) {
	x := sample()
	e := api.Event{Target: 16, Related: 15, Bubbles: true, Composed: true}
	path, all := aim.Path(x, e), aim.Visits(x, e)
	wantPath, wantAll := slices.Clone(path), slices.Clone(all)
	clear(path)
	clear(all)
	if !reflect.DeepEqual(x, sample()) {
		t.Fatal("R5: the tree is changed by a change of the answer")
	}
	if !slices.Equal(aim.Path(x, e), wantPath) || !slices.Equal(aim.Visits(x, e), wantAll) {
		t.Error("R6: another answer")
	}
}
