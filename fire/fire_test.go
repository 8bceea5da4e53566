package fire_test

import (
	"math"
	"math/rand"
	"reflect"
	"slices"
	"testing"

	"limelight/aim"
	"limelight/api"
	"limelight/fire"
	"limelight/listen"
	"limelight/tree"
)

func hear(node int, prog int) api.Hear {
	return api.Hear{Node: node, Type: api.Click, Prog: prog}
}

func capture(h api.Hear) api.Hear {
	h.Capture = true
	return h
}

func once(h api.Hear) api.Hear {
	h.Once = true
	return h
}

func click(target int) api.Event {
	return api.Event{Type: api.Click, Target: target, Related: -1, Bubbles: true, Cancel: true, Composed: true}
}

// row: 0 has 1, that has 2, that has 3.
func row() api.Tree {
	x := tree.New()
	for n := range 3 {
		x, _, _ = tree.Make(x, api.Element, api.Box)
		x = into(x, n, n+1)
	}
	return x
}

// rowHears: at 3, whose way is 0, 1, 2, 3 and back, the programs 1 to 8 are called in that order.
func rowHears() []api.Hear {
	return []api.Hear{hear(2, 5), capture(hear(3, 3)), hear(0, 7), capture(hear(1, 1)), hear(3, 4), once(hear(2, 6)), capture(hear(1, 2)), hear(0, 8)}
}

func progs(calls []fire.Call) []int {
	var l []int
	for _, c := range calls {
		l = append(l, c.Hear.Prog)
	}
	return l
}

// rest are the programs that are called yet, while the listeners stay as they are.
func rest(r *fire.Run, l []api.Hear) []int {
	var calls []fire.Call
	for c, is := r.Next(l); is; c, is = r.Next(l) {
		calls = append(calls, c)
	}
	return progs(calls)
}

func TestNew(t *testing.T) {
	x := sample()
	for n := range x {
		for _, e := range []api.Event{{Target: n}, {Target: n, Type: -1, Related: math.MinInt}, {Target: n, Type: math.MaxInt, Related: n}} {
			if fire.New(x, e) == nil {
				t.Errorf("P9.1: %+v: no run", e)
			}
		}
	}
	for _, bad := range outside(len(x)) {
		noRun(t, x, bad)
	}
	for name, bad := range spoiled(t) {
		for target := -1; target <= len(bad); target++ {
			noRun(t, bad, target)
		}
		if t.Failed() {
			t.Fatal(name)
		}
	}
}

func noRun(t *testing.T, x api.Tree, target int) {
	t.Helper()
	e := click(target)
	l := []api.Hear{hear(target, 1), capture(hear(target, 2)), hear(0, 3)}
	if fire.New(x, e) != nil {
		t.Errorf("P9.1: a run at %d", target)
	}
	if calls := fire.All(x, e, l); len(calls) != 0 {
		t.Errorf("P9.3: calls at %d: %v", target, calls)
	}
}

// TestNil: methods of nil, and of a run that nobody made.
func TestNil(t *testing.T) {
	for name, r := range map[string]*fire.Run{"nil": nil, "zero": {}} {
		for range 2 {
			if c, is := r.Next(rowHears()); is || c != (fire.Call{}) || r.Cancelled() {
				t.Errorf("P9.2: %s: %v, %t", name, c, is)
			}
			r.Tell(fire.Answer{Stop: true, Now: true, Cancel: true})
		}
	}
}

// TestNoVisits: a run whose event is told to nobody.
func TestNoVisits(t *testing.T) {
	x := sample()
	e := click(1)
	e.Related = 11
	l := []api.Hear{hear(1, 1), capture(hear(1, 2)), hear(0, 3)}
	r := fire.New(x, e)
	if c, is := r.Next(l); r == nil || is || c != (fire.Call{}) {
		t.Errorf("P9.2: %v, %t", c, is)
	}
	r.Tell(fire.Answer{Cancel: true})
	if !r.Cancelled() {
		t.Error("P9.2: not cancelled, where nobody was called")
	}
}

func TestNext(t *testing.T) {
	x := row()
	r := fire.New(x, click(3))
	if got := rest(r, rowHears()); !slices.Equal(got, []int{1, 2, 3, 4, 5, 6, 7, 8}) {
		t.Errorf("P9.2: %v", got)
	}
	// It is through: whoever comes now comes too late.
	for range 2 {
		if c, is := r.Next(append(rowHears(), hear(0, 9))); is || c != (fire.Call{}) {
			t.Errorf("P9.2: behind the end: %v, %t", c, is)
		}
	}
	still := click(3)
	still.Bubbles = false
	if got := rest(fire.New(x, still), rowHears()); !slices.Equal(got, []int{1, 2, 3, 4}) {
		t.Errorf("P9.2: without Bubbles: %v", got)
	}
	if got := rest(fire.New(x, click(1)), rowHears()); !slices.Equal(got, []int{1, 2, 7, 8}) {
		t.Errorf("P9.2: at 1: %v", got)
	}
	if got := rest(fire.New(x, click(3)), nil); len(got) != 0 {
		t.Errorf("P9.2: of none: %v", got)
	}
}

// TestNextOfTypes: e's Type alone is heard, a wrong one, too.
func TestNextOfTypes(t *testing.T) {
	x := row()
	var l []api.Hear
	kinds := []int{math.MinInt, -1, api.Focus, api.Blur, api.Toggle, api.Click, api.Types, math.MaxInt}
	for prog, kind := range kinds {
		l = append(l, api.Hear{Node: 2, Type: kind, Prog: prog})
	}
	for prog, kind := range kinds {
		e := click(2)
		e.Type = kind
		if got := rest(fire.New(x, e), l); !slices.Equal(got, []int{prog}) {
			t.Errorf("P9.2: of %d: %v", kind, got)
		}
		if got := progs(fire.All(x, e, l)); !slices.Equal(got, []int{prog}) {
			t.Errorf("P9.3: of %d: %v", kind, got)
		}
	}
}

// TestNextTells: the listener as it was added, and its visit, in shadows, too.
func TestNextTells(t *testing.T) {
	x := sample()
	e := api.Event{Type: api.FocusIn, Target: 15, Related: 6, Bubbles: true, Composed: true}
	listens := func(node int, prog int) api.Hear { return api.Hear{Node: node, Type: api.FocusIn, Prog: prog} }
	l := []api.Hear{listens(0, 1), capture(listens(12, 2)), once(listens(15, 63)), listens(12, 99), once(capture(listens(1, -7)))}
	visit := func(node int, target int, phase int, capture bool) aim.Visit {
		return aim.Visit{Stop: aim.Stop{Node: node, Target: target, Related: 6}, Phase: phase, Capture: capture}
	}
	want := []fire.Call{
		{Hear: l[4], Visit: visit(1, 1, aim.At, true)}, {Hear: l[1], Visit: visit(12, 12, aim.At, true)},
		{Hear: l[2], Visit: visit(15, 15, aim.At, false)}, {Hear: l[3], Visit: visit(12, 12, aim.At, false)}, {Hear: l[0], Visit: visit(0, 1, aim.Back, false)},
	}
	if got := fire.All(x, e, l); !slices.Equal(got, want) {
		t.Errorf("P9.3: %v, not %v", got, want)
	}
	r := fire.New(x, e)
	for i, w := range want {
		if got, is := r.Next(l); !is || got != w {
			t.Errorf("P9.2: call %d: %v, not %v", i, got, w)
		}
	}
}

// TestComeAndGo: each Next is of the listeners as they are then.
func TestComeAndGo(t *testing.T) {
	a, b, c, d := hear(2, 1), hear(2, 2), hear(2, 3), hear(1, 4)
	down := capture(hear(2, 5))
	for name, x := range map[string]struct {
		lists [][]api.Hear
		want  []int
	}{
		"one who comes during its visit":         {[][]api.Hear{{a, b}, {a, b, c}, {a, b, c}}, []int{1, 2, -1}},
		"one who comes ahead of it":              {[][]api.Hear{{down, a}, {down, b, a}, {down, b, a}}, []int{5, 2, 1}},
		"one who goes ahead of its turn":         {[][]api.Hear{{a, b, c}, {a, c}, {a}}, []int{1, 3, -1}},
		"all go":                                 {[][]api.Hear{{a, b, c}, nil, {a, b, c}}, []int{1, -1, -1}},
		"one who is called goes":                 {[][]api.Hear{{a, b, c}, {b, c}, {b, c}, {b, c}}, []int{1, 2, 3, -1}},
		"one who goes, and comes back":           {[][]api.Hear{{a, b}, {b, a}, {a, b}}, []int{1, 2, -1}},
		"one who goes, and comes back as itself": {[][]api.Hear{{a, b, c}, {a, c, b}, {c, b}}, []int{1, 2, 3}},
		"one who is there again hears Once":      {[][]api.Hear{{a, b}, {a, once(b)}}, []int{1, 2}},
		"one of another program":                 {[][]api.Hear{{a, b}, {a, hear(2, 9)}}, []int{1, -1}},
		"one of another node":                    {[][]api.Hear{{a, b}, {a, hear(3, 2)}}, []int{1, -1}},
		"one with Capture":                       {[][]api.Hear{{a, b}, {a, capture(b)}}, []int{1, -1}},
		"one of another type":                    {[][]api.Hear{{a, b}, {a, {Node: 2, Type: api.Blur, Prog: 2}}}, []int{1, -1}},
		"the next visit's":                       {[][]api.Hear{{a, b}, {d}, {d, b}}, []int{1, 4, -1}},
		"they come to a visit that is over":      {[][]api.Hear{{down, d}, {down, d}, {down, a, b, d}}, []int{5, 4, -1}},
		"two that are one":                       {[][]api.Hear{{a, once(a), a}, {a}, {a}, {a}}, []int{1, 1, 1, -1}},
		"two that are one, both gone":            {[][]api.Hear{{a, a, b}, {b}, {a, b}}, []int{1, 2, -1}},
	} {
		r := fire.New(row(), click(2))
		for i, l := range x.lists {
			call, is := r.Next(l)
			if is != (x.want[i] != -1) || is && call.Hear.Prog != x.want[i] || !is && call != (fire.Call{}) {
				t.Errorf("P9.2: %s: call %d: %v, %t", name, i, call, is)
			}
		}
	}
	// Whoever is called is told as he was taken.
	r := fire.New(row(), click(2))
	r.Next([]api.Hear{a, once(b)})
	if call, is := r.Next([]api.Hear{a, b}); !is || call.Hear != once(b) {
		t.Errorf("P9.2: %v", call)
	}
}

func TestTell(t *testing.T) {
	stop, now, cancel := fire.Answer{Stop: true}, fire.Answer{Now: true}, fire.Answer{Cancel: true}
	for i, c := range []struct {
		behind int
		answer fire.Answer
		want   []int
		gone   bool
	}{
		{0, stop, nil, false}, {0, now, nil, false}, {0, cancel, []int{1, 2, 3, 4, 5, 6, 7, 8}, true}, {0, fire.Answer{}, []int{1, 2, 3, 4, 5, 6, 7, 8}, false},
		{1, stop, []int{1, 2}, false}, {1, now, []int{1}, false}, {1, fire.Answer{Stop: true, Now: true}, []int{1}, false}, {1, fire.Answer{Stop: true, Cancel: true}, []int{1, 2}, true},
		{2, stop, []int{1, 2}, false}, {3, stop, []int{1, 2, 3}, false}, {4, stop, []int{1, 2, 3, 4}, false}, {5, stop, []int{1, 2, 3, 4, 5, 6}, false}, {5, now, []int{1, 2, 3, 4, 5}, false},
		{5, fire.Answer{Stop: true, Now: true, Cancel: true}, []int{1, 2, 3, 4, 5}, true}, {5, cancel, []int{1, 2, 3, 4, 5, 6, 7, 8}, true}, {8, stop, []int{1, 2, 3, 4, 5, 6, 7, 8}, false},
	} {
		for _, may := range []bool{true, false} {
			e := click(3)
			e.Cancel = may
			r := fire.New(row(), e)
			var got []int
			for range c.behind {
				call, _ := r.Next(rowHears())
				got = append(got, call.Hear.Prog)
			}
			if r.Cancelled() {
				t.Errorf("P9.2: case %d: cancelled ahead of the answer", i)
			}
			r.Tell(c.answer)
			got = append(got, rest(r, rowHears())...)
			if !slices.Equal(got, c.want) || r.Cancelled() != (c.gone && may) {
				t.Errorf("P9.2: case %d, %t: %v, %t", i, may, got, r.Cancelled())
			}
		}
	}
}

// TestTellAgain: what was told stays so, and what is told at the end counts.
func TestTellAgain(t *testing.T) {
	r := fire.New(row(), click(3))
	r.Next(rowHears())
	r.Tell(fire.Answer{Stop: true, Cancel: true})
	r.Tell(fire.Answer{})
	if got := rest(r, rowHears()); !slices.Equal(got, []int{2}) || !r.Cancelled() {
		t.Errorf("P9.2: %v", got)
	}
	r = fire.New(row(), click(3))
	rest(r, rowHears())
	r.Tell(fire.Answer{Cancel: true})
	if !r.Cancelled() {
		t.Error("P9.2: not cancelled, at the end")
	}
	if _, is := r.Next(rowHears()); is {
		t.Error("P9.2: it goes on")
	}
	// Two runs have nothing to do with one another.
	one, two := fire.New(row(), click(3)), fire.New(row(), click(3))
	one.Tell(fire.Answer{Now: true, Cancel: true})
	if two.Cancelled() || len(rest(two, rowHears())) != 8 {
		t.Error("P9.2: another run is told")
	}
}

// TestExample: the chapter's one.
func TestExample(t *testing.T) {
	l := []api.Hear{hear(1, 1), hear(1, 2), hear(0, 3)}
	r := fire.New(row(), click(1))
	if c, is := r.Next(l); !is || c.Hear != l[0] {
		t.Errorf("P9.2: %v", c)
	}
	r.Tell(fire.Answer{Stop: true})
	if got := rest(r, l); !slices.Equal(got, []int{2}) {
		t.Errorf("P9.2: %v", got)
	}
}

// TestAllOnce: one that hears Once is taken out, and called all the same.
func TestAllOnce(t *testing.T) {
	a, b := hear(2, 1), hear(2, 2)
	for i, c := range []struct {
		l    []api.Hear
		want []int
	}{
		{[]api.Hear{once(a)}, []int{1}}, {[]api.Hear{once(a), b}, []int{1, 2}}, {[]api.Hear{once(a), once(b), once(hear(0, 3))}, []int{1, 2, 3}},
		{[]api.Hear{once(a), capture(once(a))}, []int{1, 1}},
		// Each of two that are one is taken out by itself.
		{[]api.Hear{once(a), once(a)}, []int{1, 1}}, {[]api.Hear{a, once(a), b}, []int{1, 1, 2}}, {[]api.Hear{once(a), a, once(a)}, []int{1, 1, 1}},
		// Those that may not be, as well.
		{[]api.Hear{once(hear(2, 99)), once(hear(2, -1)), b}, []int{99, -1, 2}},
	} {
		kept := slices.Clone(c.l)
		if got := progs(fire.All(row(), click(2), c.l)); !slices.Equal(got, c.want) {
			t.Errorf("P9.3: case %d: %v", i, got)
		}
		if !slices.Equal(c.l, kept) {
			t.Errorf("R5: case %d: %v", i, c.l)
		}
	}
}

// TestVisitsStay: the visits are told once and for all, whatever becomes of the tree.
func TestVisitsStay(t *testing.T) {
	x := row()
	r := fire.New(x, click(3))
	r.Next(rowHears())
	x[3].Parent, x[2].Kids = -1, nil
	if got := rest(r, rowHears()); !slices.Equal(got, []int{2, 3, 4, 5, 6, 7, 8}) {
		t.Errorf("P9.1: %v", got)
	}
}

// TestOwnMemory: listeners that are handed in are not kept.
func TestOwnMemory(t *testing.T) {
	l := rowHears()
	r := fire.New(row(), click(3))
	r.Next(l)
	if !slices.Equal(l, rowHears()) {
		t.Errorf("R5: Next changes %v", l)
	}
	clear(l)
	if got := rest(r, rowHears()); !slices.Equal(got, []int{2, 3, 4, 5, 6, 7, 8}) {
		t.Errorf("R5: %v", got)
	}
	l = rowHears()
	first := fire.All(row(), click(3), l)
	kept := slices.Clone(first)
	second := fire.All(row(), click(3), l)
	clear(first)
	if !slices.Equal(second, kept) || !slices.Equal(l, rowHears()) {
		t.Errorf("R6: %v, not %v", second, kept)
	}
}

// words is a run as the chapter's words say it.
type words struct {
	e               api.Event
	visits          []aim.Visit
	begun, turn     int
	taken           []api.Hear
	stop, now, gone bool
}

func isOne(a api.Hear, b api.Hear) bool {
	return a.Node == b.Node && a.Type == b.Type && a.Capture == b.Capture && a.Prog == b.Prog
}

func (w *words) next(l []api.Hear) (fire.Call, bool) {
	for !w.now {
		for w.turn < len(w.taken) {
			h := w.taken[w.turn]
			w.turn++
			if slices.ContainsFunc(l, func(o api.Hear) bool { return isOne(o, h) }) {
				return fire.Call{Hear: h, Visit: w.visits[w.begun-1]}, true
			}
		}
		if w.stop || w.begun == len(w.visits) {
			break
		}
		v := w.visits[w.begun]
		w.begun++
		w.taken, w.turn = nil, 0
		for _, h := range l {
			if h.Node == v.Node && h.Type == w.e.Type && h.Capture == v.Capture {
				w.taken = append(w.taken, h)
			}
		}
	}
	return fire.Call{}, false
}

func (w *words) tell(a fire.Answer) {
	w.stop = w.stop || a.Stop || a.Now
	w.now = w.now || a.Now
	w.gone = w.gone || a.Cancel && w.e.Cancel
}

// anyone is mostly one on the way.
func anyone(r *rand.Rand, visits []aim.Visit, nodes int) api.Hear {
	h := api.Hear{Node: r.Intn(nodes), Type: r.Intn(2), Capture: r.Intn(2) == 0, Once: r.Intn(2) == 0, Prog: r.Intn(4)}
	if len(visits) > 0 && r.Intn(4) > 0 {
		h.Node = visits[r.Intn(len(visits))].Node
	}
	return h
}

func TestAgainstTheWords(t *testing.T) {
	r := rand.New(rand.NewSource(9))
	called, skipped := 0, 0
	for range 3000 {
		x := grow(r, r.Intn(100))
		e := api.Event{Type: r.Intn(2), Target: r.Intn(len(x)), Related: r.Intn(len(x)+1) - 1, Bubbles: r.Intn(3) > 0, Cancel: r.Intn(2) == 0, Composed: r.Intn(2) == 0}
		w := &words{e: e, visits: aim.Visits(x, e)}
		run := fire.New(x, e)
		var l []api.Hear
		for range r.Intn(30) {
			l, _ = listen.Add(l, anyone(r, w.visits, len(x)))
		}
		asTheyAre(t, x, e, l)
		for range 20 {
			got, is := run.Next(l)
			want, wantIs := w.next(l)
			if got != want || is != wantIs {
				t.Fatalf("P9.2: %v, %t, not %v, %t", got, is, want, wantIs)
			}
			if is {
				called++
			}
			if r.Intn(5) == 0 {
				a := fire.Answer{Stop: r.Intn(8) == 0, Now: r.Intn(16) == 0, Cancel: r.Intn(2) == 0}
				run.Tell(a)
				w.tell(a)
			}
			if run.Cancelled() != w.gone {
				t.Fatalf("P9.2: Cancelled: %t", run.Cancelled())
			}
			if w.turn < len(w.taken) && r.Intn(3) == 0 {
				l, _ = listen.Drop(l, w.taken[w.turn])
				skipped++
			}
			if r.Intn(2) == 0 {
				l, _ = listen.Add(l, anyone(r, w.visits, len(x)))
			}
		}
	}
	if called < 5000 || skipped < 200 {
		t.Fatalf("too few are called, or go: %d, %d", called, skipped)
	}
}

// asTheyAre: without answers each listener on the way is called as often as it is visited.
func asTheyAre(t *testing.T, x api.Tree, e api.Event, l []api.Hear) {
	t.Helper()
	calls := fire.All(x, e, l)
	if !reflect.DeepEqual(calls, fire.All(x, e, l)) {
		t.Fatal("R6: other calls")
	}
	var want []fire.Call
	for _, v := range aim.Visits(x, e) {
		for _, h := range l {
			if h.Node == v.Node && h.Type == e.Type && h.Capture == v.Capture {
				want = append(want, fire.Call{Hear: h, Visit: v})
			}
		}
	}
	if !slices.Equal(calls, want) {
		t.Fatalf("P9.3, P9.4: %v, not %v", calls, want)
	}
	run := fire.New(x, e)
	for _, w := range want {
		if c, is := run.Next(l); !is || c != w {
			t.Fatalf("P9.4: %v, not %v", c, w)
		}
	}
	if _, is := run.Next(l); is {
		t.Fatal("P9.4: one more")
	}
}
