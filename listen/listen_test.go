package listen_test

import (
	"math"
	"math/rand"
	"slices"
	"testing"

	"limelight/api"
	"limelight/listen"
)

func hear(node int, kind int, program int) api.Hear {
	return api.Hear{Node: node, Type: kind, Prog: program}
}

func capture(h api.Hear) api.Hear {
	h.Capture = true
	return h
}

func once(h api.Hear) api.Hear {
	h.Once = true
	return h
}

// wrong: listeners that may not be, each by one thing.
func wrong() []api.Hear {
	var all []api.Hear
	for _, n := range []int{-1, 64, 65, math.MinInt, math.MaxInt} {
		all = append(all, hear(n, 0, 0), hear(0, 0, n), hear(0, n, 0))
	}
	return append(all, hear(0, api.Types, 0))
}

// edges: listeners that may be, at the ends of what they may.
func edges() []api.Hear {
	return []api.Hear{hear(0, 0, 0), hear(63, 0, 0), hear(0, 8, 0), hear(0, 0, 63), capture(hear(63, 8, 63)), once(hear(63, 8, 63))}
}

// many: count listeners, no two of which are one.
func many(count int) []api.Hear {
	var l []api.Hear
	for i := range count {
		l = append(l, hear(i%64, i/64%api.Types, 0))
	}
	return l
}

// others: all that differ from h by one thing that counts.
func others(h api.Hear) []api.Hear {
	return []api.Hear{hear(h.Node+1, h.Type, h.Prog), hear(h.Node, h.Type+1, h.Prog), hear(h.Node, h.Type, h.Prog+1), capture(h)}
}

func TestCheck(t *testing.T) {
	a := hear(1, api.Blur, 2)
	for i, c := range []struct {
		l     []api.Hear
		nodes int
		want  api.Errno
	}{
		{nil, 0, api.OK}, {nil, -1, api.OK}, {[]api.Hear{}, 64, api.OK}, {nil, math.MinInt, api.OK},
		{[]api.Hear{a}, 2, api.OK}, {[]api.Hear{a}, math.MaxInt, api.OK}, {edges(), 64, api.OK}, {append(others(a), a), 64, api.OK},
		{many(64), 64, api.OK}, {many(65), 64, api.ErrArg}, {many(65), 0, api.ErrArg}, {many(500), 64, api.ErrArg},
		{[]api.Hear{a}, 1, api.ErrNode}, {[]api.Hear{a}, 0, api.ErrNode}, {[]api.Hear{a}, math.MinInt, api.ErrNode}, {[]api.Hear{hear(0, 0, 0)}, 0, api.ErrNode},
		{many(64), 63, api.ErrNode}, {edges(), 63, api.ErrNode}, {[]api.Hear{hear(0, 0, 0), a}, 1, api.ErrNode}, {[]api.Hear{a, hear(0, 0, 0)}, 1, api.ErrNode},
		{[]api.Hear{a, a}, 64, api.ErrArg}, {[]api.Hear{a, once(a)}, 64, api.ErrArg}, {[]api.Hear{once(a), a}, 64, api.ErrArg}, {[]api.Hear{a, capture(a), a}, 64, api.ErrArg},
		// ErrArg goes first, wherever it stands.
		{[]api.Hear{a, a}, 0, api.ErrArg}, {[]api.Hear{hear(5, 0, 0), a, once(a)}, 1, api.ErrArg}, {append(many(63), hear(0, 0, 64)), 1, api.ErrArg},
	} {
		if e := listen.Check(c.l, c.nodes); e != c.want {
			t.Errorf("P8.1: case %d: %d, not %d", i, e, c.want)
		}
	}
	for _, bad := range wrong() {
		for _, nodes := range []int{-1, 0, 64, math.MaxInt} {
			for _, l := range [][]api.Hear{{bad}, {a, bad}, {bad, a}} {
				if e := listen.Check(l, nodes); e != api.ErrArg {
					t.Errorf("P8.1: %+v: %d", l, e)
				}
			}
		}
	}
}

func TestAdd(t *testing.T) {
	var l []api.Hear
	for _, h := range edges()[:5] {
		k, e := listen.Add(l, h)
		if e != api.OK || !slices.Equal(k, append(slices.Clone(l), h)) {
			t.Errorf("P8.2: %+v: %v, %d", h, k, e)
		}
		l = k
	}
	a := hear(1, api.Blur, 2)
	for _, h := range append(others(a), others(once(a))...) {
		if k, e := listen.Add([]api.Hear{a}, h); e != api.OK || !slices.Equal(k, []api.Hear{a, h}) {
			t.Errorf("P8.2: another one: %+v: %v, %d", h, k, e)
		}
	}
	if k, e := listen.Add(nil, once(a)); e != api.OK || !slices.Equal(k, []api.Hear{once(a)}) {
		t.Errorf("P8.2: Once is kept: %v, %d", k, e)
	}
}

// TestAddAgain: who is there stays as he is, and where he is.
func TestAddAgain(t *testing.T) {
	a, b := hear(1, api.Blur, 2), capture(hear(3, api.Click, 4))
	for _, l := range [][]api.Hear{{a}, {once(a)}, {a, b}, {b, once(a)}} {
		for _, h := range []api.Hear{a, once(a)} {
			if k, e := listen.Add(l, h); e != api.OK || !slices.Equal(k, l) {
				t.Errorf("P8.2: %v: %v, %d", l, k, e)
			}
		}
	}
}

func TestAddToMany(t *testing.T) {
	a := hear(1, api.Click, 5)
	for _, count := range []int{63, 64, 65, 200} {
		l := many(count)
		k, e := listen.Add(l, a)
		if count == 63 && (e != api.OK || !slices.Equal(k, append(many(63), a))) {
			t.Errorf("P8.2: one more: %d, %d", len(k), e)
		}
		if count > 63 && (e != api.ErrFull || !slices.Equal(k, many(count))) {
			t.Errorf("P8.2: to %d: %d, %d", count, len(k), e)
		}
		// One who is there already needs no room; one who may not be is told first.
		if k, e := listen.Add(l, once(l[count-1])); e != api.OK || !slices.Equal(k, many(count)) {
			t.Errorf("P8.2: again, to %d: %d, %d", count, len(k), e)
		}
		if k, e := listen.Add(l, hear(64, 0, 0)); e != api.ErrArg || !slices.Equal(k, many(count)) {
			t.Errorf("P8.2: wrong, to %d: %d, %d", count, len(k), e)
		}
	}
}

func TestDrop(t *testing.T) {
	a, b, c := hear(1, api.Blur, 2), capture(hear(1, api.Blur, 2)), hear(63, api.Click, 63)
	for i, x := range []struct {
		l    []api.Hear
		h    api.Hear
		want []api.Hear
	}{
		{[]api.Hear{a, b, c}, a, []api.Hear{b, c}}, {[]api.Hear{a, b, c}, b, []api.Hear{a, c}}, {[]api.Hear{a, b, c}, c, []api.Hear{a, b}}, {[]api.Hear{a}, a, nil},
		{[]api.Hear{a, b, c}, once(b), []api.Hear{a, c}}, {[]api.Hear{once(a), b}, a, []api.Hear{b}},
		// Of several that are one the first one.
		{[]api.Hear{c, a, b, once(a)}, a, []api.Hear{c, b, once(a)}}, {[]api.Hear{once(a), c, a}, a, []api.Hear{c, a}},
		{append(many(80), a), a, many(80)},
		// What else is in the list does not matter.
		{append(wrong(), a), a, wrong()},
	} {
		if k, e := listen.Drop(x.l, x.h); e != api.OK || !slices.Equal(k, x.want) {
			t.Errorf("P8.2: case %d: %v, %d", i, k, e)
		}
	}
	for _, h := range append(others(a), others(once(a))...) {
		if k, e := listen.Drop([]api.Hear{a}, h); e != api.ErrState || !slices.Equal(k, []api.Hear{a}) {
			t.Errorf("P8.2: another one: %+v: %v, %d", h, k, e)
		}
	}
	if k, e := listen.Drop(nil, a); e != api.ErrState || len(k) != 0 {
		t.Errorf("P8.2: of none: %v, %d", k, e)
	}
}

func TestWrong(t *testing.T) {
	for _, bad := range wrong() {
		for _, h := range []api.Hear{bad, once(bad), capture(bad)} {
			for _, l := range [][]api.Hear{nil, many(3), many(64), {h}} {
				if k, e := listen.Add(l, h); e != api.ErrArg || !slices.Equal(k, l) {
					t.Errorf("P8.2: Add of %+v: %v, %d", h, k, e)
				}
				if k, e := listen.Drop(l, h); e != api.ErrArg || !slices.Equal(k, l) {
					t.Errorf("P8.2: Drop of %+v: %v, %d", h, k, e)
				}
			}
		}
	}
}

func TestFor(t *testing.T) {
	a := hear(1, api.Blur, 2)
	l := []api.Hear{hear(1, api.Blur, 9), capture(a), hear(2, api.Blur, 2), once(hear(1, api.Blur, 3)), hear(1, api.Focus, 2), a, once(capture(hear(1, api.Blur, 0))), hear(99, -5, 70)}
	for i, c := range []struct {
		node, kind int
		capture    bool
		want       []api.Hear
	}{
		{1, api.Blur, false, []api.Hear{l[0], l[3], l[5]}}, {1, api.Blur, true, []api.Hear{l[1], l[6]}},
		{2, api.Blur, false, []api.Hear{l[2]}}, {2, api.Blur, true, nil}, {1, api.Focus, false, []api.Hear{l[4]}}, {1, api.Focus, true, nil},
		{3, api.Blur, false, nil}, {1, api.Click, false, nil}, {-1, api.Blur, false, nil}, {1, api.Types, false, nil}, {math.MaxInt, math.MinInt, true, nil},
		// Who may not be is told as well: For looks at what it is asked for alone.
		{99, -5, false, []api.Hear{l[7]}}, {99, -5, true, nil},
	} {
		if got := listen.For(l, c.node, c.kind, c.capture); !slices.Equal(got, c.want) {
			t.Errorf("P8.3: case %d: %v, not %v", i, got, c.want)
		}
		if got := listen.For(nil, c.node, c.kind, c.capture); len(got) != 0 {
			t.Errorf("P8.3: case %d: of none: %v", i, got)
		}
	}
	if got := listen.For(slices.Repeat([]api.Hear{a}, 100), 1, api.Blur, false); len(got) != 100 {
		t.Errorf("P8.3: of 100: %d", len(got))
	}
}

// TestExample: the chapter's one.
func TestExample(t *testing.T) {
	a := hear(0, api.Focus, 0)
	l, _ := listen.Add(nil, a)
	if l, e := listen.Add(l, a); e != api.OK || !slices.Equal(l, []api.Hear{a}) {
		t.Errorf("P8.2: %v, %d", l, e)
	}
}

// TestAddedIsThere: what was added is there once, until it is dropped, whatever else comes and goes.
func TestAddedIsThere(t *testing.T) {
	type key struct {
		node, kind, prog int
		capture          bool
	}
	r := rand.New(rand.NewSource(8))
	var l []api.Hear
	there := map[key]api.Hear{}
	full := 0
	for range 20000 {
		k := key{r.Intn(4) - r.Intn(2), r.Intn(4) - r.Intn(2), r.Intn(3), r.Intn(2) == 0}
		h := api.Hear{Node: k.node, Type: k.kind, Prog: k.prog, Capture: k.capture, Once: r.Intn(2) == 0}
		_, is := there[k]
		may := k.node >= 0 && k.kind >= 0
		kept := slices.Clone(l)
		want, next, e := api.OK, l, api.OK
		if r.Intn(7) < 4 {
			next, e = listen.Add(l, h)
			if !may {
				want = api.ErrArg
			} else if !is && len(l) == api.MaxHears {
				want = api.ErrFull
				full++
			} else if !is {
				there[k] = h
			}
		} else {
			next, e = listen.Drop(l, h)
			if !may {
				want = api.ErrArg
			} else if !is {
				want = api.ErrState
			}
			delete(there, k)
		}
		if e != want || !slices.Equal(l, kept) {
			t.Fatalf("P8.2, R5: %+v: %d, not %d", h, e, want)
		}
		l = next
		if len(l) != len(there) || listen.Check(l, 4) != api.OK {
			t.Fatalf("P8.4: %d, not %d: %v", len(l), len(there), l)
		}
		for _, h := range l {
			if there[key{h.Node, h.Type, h.Prog, h.Capture}] != h {
				t.Fatalf("P8.4: %+v is not as it was added", h)
			}
		}
		wantHeard := slices.DeleteFunc(slices.Clone(l), func(o api.Hear) bool { return o.Node != h.Node || o.Type != h.Type || o.Capture != h.Capture })
		if got := listen.For(l, h.Node, h.Type, h.Capture); !slices.Equal(got, wantHeard) {
			t.Fatalf("P8.3: %v, not %v", got, wantHeard)
		}
	}
	if full == 0 {
		t.Fatal("it was never full")
	}
}

// TestOwnMemory: a list with room behind it is not written to, and two that come of one are apart.
func TestOwnMemory(t *testing.T) {
	room := make([]api.Hear, 3, 10)
	copy(room, many(3))
	behind := room[:10]
	a, b := hear(9, api.Click, 1), hear(9, api.Click, 2)
	first, _ := listen.Add(room, a)
	second, _ := listen.Add(room, b)
	if !slices.Equal(first, append(many(3), a)) || !slices.Equal(second, append(many(3), b)) || behind[3] != (api.Hear{}) {
		t.Errorf("R5: Add: %v, %v, %v", first, second, behind)
	}
	less, _ := listen.Drop(room, room[1])
	heard := listen.For(room, 0, 0, false)
	if !slices.Equal(room, many(3)) || behind[3] != (api.Hear{}) {
		t.Errorf("R5: Drop: %v", behind)
	}
	clear(first)
	clear(less)
	clear(heard)
	clear(less[:cap(less)])
	if !slices.Equal(room, many(3)) {
		t.Errorf("R5: a change of the answer: %v", room)
	}
	clear(room)
	if !slices.Equal(second, append(many(3), b)) {
		t.Errorf("R5: a change of what was handed in: %v", second)
	}
}
