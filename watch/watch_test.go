package watch_test

import (
	"math"
	"math/rand"
	"slices"
	"testing"

	"limelight/watch"
)

func is(t *testing.T, name string, w watch.Watch, allowed int, next bool, groups ...[]int) {
	t.Helper()
	if w.Allowed != allowed || w.Next != next || !slices.EqualFunc(w.Groups, groups, slices.Equal) {
		t.Errorf("%s: %v, not %v", name, w, watch.Watch{Groups: groups, Allowed: allowed, Next: next})
	}
}

func told(t *testing.T, name string, got []int, want ...int) {
	t.Helper()
	if !slices.Equal(got, want) {
		t.Errorf("%s: %v, not %v", name, got, want)
	}
}

func of(allowed int, next bool, groups ...[]int) watch.Watch {
	return watch.Watch{Groups: groups, Allowed: allowed, Next: next}
}

func TestNew(t *testing.T) {
	is(t, "P18.1", watch.New(), 1, true)
	w := watch.New()
	w.Allowed, w.Groups = 7, append(w.Groups, []int{1})
	is(t, "P18.1, R5", watch.New(), 1, true)
}

func TestOpen(t *testing.T) {
	for _, c := range []struct {
		w      watch.Watch
		groups [][]int
	}{
		{of(1, true), [][]int{{5}}}, {of(2, true), [][]int{{5}}},
		{of(0, false), [][]int{{5}}}, {of(-1, true), [][]int{{5}}}, {of(math.MinInt, false), [][]int{{5}}}, // none: one is made, whatever is allowed
		{of(1, true, []int{3}), [][]int{{3, 5}}}, {of(2, true, []int{3}), [][]int{{3}, {5}}}, {of(3, false, []int{3}), [][]int{{3}, {5}}},
		{of(0, true, []int{3}), [][]int{{3, 5}}}, {of(-8, false, []int{3}), [][]int{{3, 5}}}, {of(math.MaxInt, true, []int{3}), [][]int{{3}, {5}}},
		{of(1, false, []int{3}, []int{4, 2}), [][]int{{3}, {4, 2, 5}}}, {of(2, true, []int{3}, []int{4, 2}), [][]int{{3}, {4, 2, 5}}}, {of(3, true, []int{3}, []int{4, 2}), [][]int{{3}, {4, 2}, {5}}},
		{of(1, true, []int{5}), [][]int{{5, 5}}}, {of(2, true, []int{5}), [][]int{{5}, {5}}}, // nobody asks whether it is there
		{of(1, true, []int{3}, nil), [][]int{{3}, {5}}}, {of(3, true, []int{}, nil), [][]int{{}, {}, {5}}},
	} {
		is(t, "P18.1: Open", watch.Open(c.w, 5), c.w.Allowed, true, c.groups...)
	}
	for _, n := range []int{0, -1, 64, math.MinInt, math.MaxInt} {
		is(t, "P18.1: any number", watch.Open(watch.New(), n), 1, true, []int{n})
	}
}

func TestAct(t *testing.T) {
	for _, c := range []struct {
		w    watch.Watch
		want int
	}{
		{of(1, true), 2}, {of(1, false), 1}, {of(5, true, []int{3}, []int{4}), 6}, {of(5, false, []int{3}, []int{4}), 5},
		{of(999, true), 1000}, {of(999, false), 999}, {of(1000, true), 1000}, {of(1001, true), 1001}, {of(1000, false), 1000},
		{of(0, true), 1}, {of(-5, true), -4}, {of(math.MinInt, true), math.MinInt + 1}, {of(math.MaxInt, true), math.MaxInt},
	} {
		is(t, "P18.1: Act", watch.Act(c.w), c.want, false, c.w.Groups...)
	}
	w := watch.New()
	for i := range 1200 {
		w = watch.Act(watch.Open(w, i))
	}
	if w.Allowed != 1000 || len(w.Groups) != 1000 || len(w.Groups[999]) != 201 {
		t.Errorf("P18.1: many: %d, %d", w.Allowed, len(w.Groups))
	}
}

func TestDrop(t *testing.T) {
	for _, c := range []struct {
		groups [][]int
		want   [][]int
	}{
		{nil, nil}, {[][]int{{5}}, nil}, {[][]int{{3}}, [][]int{{3}}}, {[][]int{{5, 3}}, [][]int{{3}}}, {[][]int{{3, 5, 4}}, [][]int{{3, 4}}},
		{[][]int{{3}, {5}, {4}}, [][]int{{3}, {4}}}, {[][]int{{5}, {3, 4}}, [][]int{{3, 4}}}, {[][]int{{3, 4}, {5}}, [][]int{{3, 4}}},
		{[][]int{{5, 5}, {5, 3, 5}, {5}}, [][]int{{3}}}, {[][]int{{5}, {5}}, nil}, // in no group, wherever it was
		{[][]int{{}, {3}, nil}, [][]int{{3}}}, // nobody is left there either
	} {
		for _, next := range []bool{false, true} {
			for _, allowed := range []int{1, 4, 1000, -5, math.MinInt, math.MaxInt} {
				is(t, "P18.2", watch.Drop(of(allowed, next, c.groups...), 5), allowed, next, c.want...)
			}
		}
	}
	w := of(3, false, []int{3, 4}, []int{5})
	for _, n := range []int{0, -1, 6, math.MinInt, math.MaxInt} {
		is(t, "P18.2: nobody's number", watch.Drop(w, n), 3, false, w.Groups...)
	}
}

func TestClose(t *testing.T) {
	for _, c := range []struct {
		groups [][]int
		want   []int
	}{
		{nil, nil}, {[][]int{{3}}, []int{3}}, {[][]int{{3, 4, 5}}, []int{5, 4, 3}}, {[][]int{{3, 4}, {5, 2}}, []int{2, 5}},
		{[][]int{{3, 4}, {7, 7, 1}}, []int{1, 7, 7}}, {[][]int{{1}, {2}, {9}}, []int{9}}, {[][]int{{3}, {}}, nil},
	} {
		for _, next := range []bool{false, true} {
			for allowed, want := range map[int]int{1: 1, 2: 1, 3: 2, 1000: 999, 0: 1, -5: 1, math.MinInt: 1, math.MinInt + 1: 1, math.MaxInt: math.MaxInt - 1} {
				w, l := watch.Close(of(allowed, next, c.groups...))
				is(t, "P18.3: who closes is not dropped", w, want, next, c.groups...)
				told(t, "P18.3", l, c.want...)
			}
		}
	}
	if _, l := watch.Close(watch.Watch{}); l != nil {
		t.Errorf("P18.3: nothing: %v", l)
	}
}

// TestZero: a watch that New has not made.
func TestZero(t *testing.T) {
	is(t, "P18.1: Open", watch.Open(watch.Watch{}, 1), 0, true, []int{1})
	is(t, "P18.1: Open of two", watch.Open(watch.Open(watch.Watch{}, 1), 2), 0, true, []int{1, 2})
	is(t, "P18.1: Act", watch.Act(watch.Watch{}), 0, false)
	is(t, "P18.2", watch.Drop(watch.Watch{}, 0), 0, false)
	w, _ := watch.Close(watch.Watch{})
	is(t, "P18.3", w, 1, false)
}

// TestExample: the chapter's one, and on from there.
func TestExample(t *testing.T) {
	w := watch.Open(watch.Act(watch.Open(watch.New(), 1)), 2)
	w, l := watch.Close(w)
	told(t, "P18.3", l, 2)
	w = watch.Drop(w, 2)
	is(t, "P18.2", w, 1, true, []int{1})
	is(t, "P18.1: what was allowed is used up", watch.Open(w, 3), 1, true, []int{1, 3})
	w, l = watch.Close(w)
	told(t, "P18.3", l, 1)
	is(t, "P18.2", watch.Drop(w, 1), 1, true)
	// Acts that nothing is opened between are one.
	w = watch.Act(watch.Act(watch.Act(watch.New())))
	is(t, "P18.1", watch.Open(watch.Open(watch.Open(w, 1), 2), 3), 2, true, []int{1}, []int{2, 3})
}

// model has each group's members as pairs of group and number, so that it shares no way of going with what it is held against.
type model struct {
	at, who []int
	last    int
	allowed int
	next    bool
}

func (m *model) groups() [][]int {
	var all [][]int
	for g := range m.last + 1 {
		var l []int
		for i, at := range m.at {
			if at == g {
				l = append(l, m.who[i])
			}
		}
		if l != nil {
			all = append(all, l)
		}
	}
	return all
}

func (m *model) open(n int) {
	if count := len(m.groups()); count == 0 || count < m.allowed {
		m.last++
	} else {
		m.last = m.at[len(m.at)-1]
	}
	m.at, m.who, m.next = append(m.at, m.last), append(m.who, n), true
}

func (m *model) drop(n int) {
	for i := len(m.who) - 1; i >= 0; i-- {
		if m.who[i] == n {
			m.at, m.who = slices.Delete(m.at, i, i+1), slices.Delete(m.who, i, i+1)
		}
	}
}

func (m *model) act() {
	if m.next {
		m.allowed = min(m.allowed+1, 1000)
	}
	m.next = false
}

func (m *model) close() []int {
	m.allowed = max(m.allowed-1, 1)
	all := m.groups()
	if len(all) == 0 {
		return nil
	}
	l := slices.Clone(all[len(all)-1])
	slices.Reverse(l)
	return l
}

// TestAgainstTheWords: any calls, and P18.4 of those among which the user does not act.
func TestAgainstTheWords(t *testing.T) {
	r := rand.New(rand.NewSource(18))
	several := 0
	for round := range 600 {
		w, m := watch.New(), model{allowed: 1, next: true}
		kinds := 10 - round%2*3
		for range r.Intn(60) {
			n := r.Intn(9)
			switch k := r.Intn(kinds); {
			case k < 4:
				w = watch.Open(w, n)
				m.open(n)
			case k < 6:
				w = watch.Drop(w, n)
				m.drop(n)
			case k < 7:
				var l []int
				w, l = watch.Close(w)
				told(t, "P18.3", l, m.close()...)
			default:
				w = watch.Act(w)
				m.act()
			}
			is(t, "any calls", w, m.allowed, m.next, m.groups()...)
			if kinds == 7 && (len(w.Groups) > 1 || w.Allowed != 1 || !w.Next) {
				t.Errorf("P18.4: %v", w)
			}
			if len(w.Groups) > 2 {
				several++
			}
		}
		if t.Failed() {
			t.Fatalf("round %d", round)
		}
	}
	if several < 500 {
		t.Errorf("too few: %d", several)
	}
}

// TestOwnMemory: groups with room behind them, which lie in one array, are neither changed nor handed on.
func TestOwnMemory(t *testing.T) {
	numbers := []int{3, 4, 5, 6, 7, 8}
	view := func(allowed int) watch.Watch {
		w := watch.Watch{Groups: make([][]int, 0, 8), Allowed: allowed, Next: true}
		w.Groups = append(w.Groups, numbers[0:2], numbers[2:4])
		return w
	}
	for name, do := range map[string]func(watch.Watch) watch.Watch{
		"Open":  func(w watch.Watch) watch.Watch { return watch.Open(w, 9) },
		"Drop":  func(w watch.Watch) watch.Watch { return watch.Drop(w, 3) },
		"none":  func(w watch.Watch) watch.Watch { return watch.Drop(w, 9) },
		"Act":   watch.Act,
		"Close": func(w watch.Watch) watch.Watch { x, _ := watch.Close(w); return x },
		"list": func(w watch.Watch) watch.Watch {
			x, l := watch.Close(w)
			l[0], l[1] = -7, -7
			is(t, "R5: list", x, max(w.Allowed-1, 1), true, []int{3, 4}, []int{5, 6})
			return x
		},
	} {
		for _, allowed := range []int{1, 2, 3} {
			w := view(allowed)
			first, second := do(w), do(w)
			kept := slices.Clone(second.Groups)
			for i := range kept {
				kept[i] = slices.Clone(kept[i])
			}
			for i, g := range first.Groups {
				for j := range g {
					g[j] = -7
				}
				first.Groups[i] = append(g, -7)
			}
			_ = append(first.Groups, []int{-7})
			is(t, "R5, R6: "+name, second, first.Allowed, first.Next, kept...)
			is(t, "R5: "+name, w, allowed, true, []int{3, 4}, []int{5, 6})
			told(t, "R5: "+name, numbers, 3, 4, 5, 6, 7, 8)
			if extra := w.Groups[:3][2]; extra != nil {
				t.Errorf("R5: %s: %v behind the groups", name, extra)
			}
		}
	}
}
