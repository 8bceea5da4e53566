package top_test

import (
	"math"
	"math/rand"
	"reflect"
	"slices"
	"testing"

	"limelight/api"
	"limelight/attr"
	"limelight/top"
	"limelight/tree"
)

// same takes a list that is nil and one that is empty as one.
func same(a api.View, b api.View) bool {
	return reflect.DeepEqual(tree.Copy(a.Tree), tree.Copy(b.Tree)) && slices.Equal(a.Open, b.Open) && slices.Equal(a.Modal, b.Modal) && slices.Equal(a.Popups, b.Popups) && slices.Equal(a.Top, b.Top)
}

func TestCheckTakesWhatMayBe(t *testing.T) {
	x := sample()
	if tree.Check(x) != api.OK {
		t.Fatal("the sample may not be")
	}
	for name, v := range map[string]api.View{
		"nothing open":            {Tree: x},
		"empty, not nil":          {Tree: x, Open: []int{}, Modal: []int{}, Popups: []api.Shown{}, Top: []int{}},
		"much":                    busy(),
		"all dialogs":             {Tree: x, Open: dialogs()},
		"all dialogs, modal":      {Tree: x, Modal: dialogs(), Top: dialogs()},
		"Top in another order":    {Tree: x, Modal: []int{1, 2}, Popups: shown(3, -1), Top: []int{3, 2, 1}},
		"all popups":              {Tree: x, Popups: shown(3, -1, 4, -1, 5, -1, 6, -1, 11, -1, 14, -1), Top: popups()},
		"both, as a dialog":       {Tree: x, Open: []int{6}},
		"both, as a modal one":    {Tree: x, Modal: []int{6}, Top: []int{6}},
		"both, as a popup":        {Tree: x, Popups: shown(6, -1), Top: []int{6}},
		"the first invoker":       {Tree: x, Popups: shown(3, 0), Top: []int{3}},
		"the last invoker":        {Tree: x, Popups: shown(3, len(x)-1), Top: []int{3}},
		"its own invoker":         {Tree: x, Popups: shown(3, 3), Top: []int{3}},
		"a text as invoker":       {Tree: x, Popups: shown(3, 8, 4, 8), Top: []int{3, 4}},
		"invokers not connected":  {Tree: x, Popups: shown(3, 16, 4, 19), Top: []int{3, 4}},
		"a dialog as invoker":     {Tree: x, Modal: []int{1}, Popups: shown(3, 1), Top: []int{3, 1}},
		"a document alone":        {Tree: tree.New()},
		"a dialog below a dialog": {Tree: x, Open: []int{1}, Modal: []int{10}, Top: []int{10}},
	} {
		if e := top.Check(v); e != api.OK {
			t.Errorf("P10.1: %s: %d", name, e)
		}
	}
}

// notDialogs and notPopups: all nodes that can be none, and numbers that are no nodes.
func notDialogs() []int { return except(dialogs()) }
func notPopups() []int  { return except(popups()) }

func except(those []int) []int {
	l := outside(len(sample()))
	for n := range sample() {
		if !slices.Contains(those, n) {
			l = append(l, n)
		}
	}
	return l
}

// unfit are views that may not be, though their tree may.
func unfit() map[string]api.View {
	x := sample()
	return map[string]api.View{
		"a dialog twice":             {Tree: x, Open: []int{1, 1}},
		"twice, apart":               {Tree: x, Open: []int{1, 2, 13, 1}},
		"a modal one twice":          {Tree: x, Modal: []int{1, 1}, Top: []int{1}},
		"a modal one twice, on top":  {Tree: x, Modal: []int{1, 1}, Top: []int{1, 1}},
		"a popup twice":              {Tree: x, Popups: shown(3, -1, 3, -1), Top: []int{3}},
		"a popup twice, by two":      {Tree: x, Popups: shown(3, 1, 4, -1, 3, 2), Top: []int{3, 4, 3}},
		"open and modal":             {Tree: x, Open: []int{1}, Modal: []int{1}, Top: []int{1}},
		"open and popup":             {Tree: x, Open: []int{6}, Popups: shown(6, -1), Top: []int{6}},
		"modal and popup":            {Tree: x, Modal: []int{6}, Popups: shown(6, -1), Top: []int{6}},
		"modal and popup, on top":    {Tree: x, Modal: []int{6}, Popups: shown(6, -1), Top: []int{6, 6}},
		"an invoker below none":      {Tree: x, Popups: shown(3, -2), Top: []int{3}},
		"an invoker behind all":      {Tree: x, Popups: shown(3, len(x)), Top: []int{3}},
		"an invoker far away":        {Tree: x, Popups: shown(4, -1, 3, math.MaxInt), Top: []int{4, 3}},
		"a modal one not on top":     {Tree: x, Modal: []int{1}},
		"a popup not on top":         {Tree: x, Popups: shown(3, -1)},
		"one of two not on top":      {Tree: x, Modal: []int{1, 2}, Top: []int{2}},
		"a dialog on top":            {Tree: x, Open: []int{1}, Top: []int{1}},
		"another one on top":         {Tree: x, Modal: []int{1}, Top: []int{2}},
		"nobody on top":              {Tree: x, Top: []int{-1}},
		"twice on top":               {Tree: x, Modal: []int{1}, Top: []int{1, 1}},
		"twice on top, none of one":  {Tree: x, Modal: []int{1, 2}, Top: []int{1, 1}},
		"one more on top":            {Tree: x, Modal: []int{1}, Top: []int{1, 2}},
		"one far away on top":        {Tree: x, Modal: []int{1}, Top: []int{1, math.MaxInt}},
		"somebody on top, none open": {Tree: x, Top: []int{1}},
	}
}

func TestCheckRefuses(t *testing.T) {
	for name, v := range unfit() {
		if e := top.Check(v); e != api.ErrState {
			t.Errorf("P10.1: %s: %d", name, e)
		}
		refusedEverywhere(t, name, v, api.ErrState)
	}
	x := sample()
	for _, n := range notDialogs() {
		for name, v := range map[string]api.View{"Open": {Tree: x, Open: []int{n}}, "Open, behind": {Tree: x, Open: []int{1, n}}, "Modal": {Tree: x, Modal: []int{n}, Top: []int{n}}, "Modal, behind": {Tree: x, Modal: []int{1, n}, Top: []int{1, n}}} {
			if e := top.Check(v); e != api.ErrState {
				t.Errorf("P10.1: %d in %s: %d", n, name, e)
			}
		}
	}
	for _, n := range notPopups() {
		for _, v := range []api.View{{Tree: x, Popups: shown(n, -1), Top: []int{n}}, {Tree: x, Popups: shown(3, -1, n, -1), Top: []int{3, n}}} {
			if e := top.Check(v); e != api.ErrState {
				t.Errorf("P10.1: %d in Popups: %d", n, e)
			}
		}
	}
}

// refusedEverywhere: Check's error and the zero view, whatever else is wrong.
func refusedEverywhere(t *testing.T, name string, v api.View, want api.Errno) {
	t.Helper()
	for _, n := range []int{1, 7, 99} {
		for _, modal := range []bool{true, false} {
			if w, e := top.Dialog(v, n, modal); e != want || !reflect.DeepEqual(w, api.View{}) {
				t.Errorf("P10.4: Dialog: %s: %d, %v", name, e, w)
			}
		}
		for _, shown := range []api.Shown{{Node: n, Invoker: -1}, {Node: 3, Invoker: n}} {
			if w, e := top.Popup(v, shown); e != want || !reflect.DeepEqual(w, api.View{}) {
				t.Errorf("P10.4: Popup: %s: %d, %v", name, e, w)
			}
		}
		if w, e := top.Close(v, n); e != want || !reflect.DeepEqual(w, api.View{}) {
			t.Errorf("P10.4: Close: %s: %d, %v", name, e, w)
		}
	}
	if n := top.Highest(v); n != -1 {
		t.Errorf("P10.3: %s: %d", name, n)
	}
}

func TestNoTree(t *testing.T) {
	for name, x := range spoiled(t) {
		for _, v := range []api.View{{Tree: x}, {Tree: x, Modal: []int{1}, Top: []int{1}}, {Tree: x, Open: []int{1, 99}, Top: []int{7}}} {
			if e := top.Check(v); e != api.ErrArg {
				t.Errorf("P10.1: %s: %d", name, e)
			}
			if w, gone, e := top.Fix(v); e != api.ErrArg || len(gone) != 0 || !reflect.DeepEqual(w, api.View{}) {
				t.Errorf("P10.2: %s: %v, %v, %d", name, w, gone, e)
			}
			refusedEverywhere(t, name, v, api.ErrArg)
			if w := top.Copy(v); !same(w, v) {
				t.Errorf("P10.1: Copy: %s: %v", name, w)
			}
		}
	}
}

func TestFix(t *testing.T) {
	x := sample()
	for name, c := range map[string]struct {
		v, want api.View
		gone    []int
	}{
		"nothing to do": {busy(), busy(), nil},
		"Open":          {api.View{Tree: x, Open: []int{16, 1, 3, 20, 2, 99}}, api.View{Tree: x, Open: []int{1, 2}}, []int{16, 3, 20, 99}},
		"Modal":         {api.View{Tree: x, Modal: []int{16, 1, 3, 20, 2}, Top: []int{2, 3, 1, 16, 20}}, api.View{Tree: x, Modal: []int{1, 2}, Top: []int{2, 1}}, []int{16, 3, 20}},
		"Popups": {api.View{Tree: x, Popups: shown(17, 1, 3, 2, 1, 3, 14, -1, 21, 4), Top: []int{14, 1, 3, 17, 21}},
			api.View{Tree: x, Popups: shown(3, 2, 14, -1), Top: []int{14, 3}}, []int{17, 1, 21}},
		"of all": {api.View{Tree: x, Open: []int{7, 2}, Modal: []int{5, 1}, Popups: shown(2, -1, 3, -1, 0, -1), Top: []int{0, 1, 2, 3, 5}},
			api.View{Tree: x, Open: []int{2}, Modal: []int{1}, Popups: shown(3, -1), Top: []int{1, 3}}, []int{7, 5, 2, 0}},
		"no dialog, a popup": {api.View{Tree: x, Open: []int{3}, Modal: []int{4}, Popups: shown(3, -1, 4, -1), Top: []int{3, 4}}, api.View{Tree: x, Popups: shown(3, -1, 4, -1), Top: []int{3, 4}}, []int{3, 4}},
		"no popup, a dialog": {api.View{Tree: x, Modal: []int{1}, Popups: shown(1, -1), Top: []int{1}}, api.View{Tree: x, Modal: []int{1}, Top: []int{1}}, []int{1}},
		"on top alone":       {api.View{Tree: x, Open: []int{1}, Top: []int{1, 3, -1, 99}}, api.View{Tree: x, Open: []int{1}}, nil},
		"Invokers": {api.View{Tree: x, Popups: shown(3, -2, 4, len(x), 5, math.MaxInt, 6, math.MinInt, 11, 8, 14, 0), Top: popups()},
			api.View{Tree: x, Popups: shown(3, -1, 4, -1, 5, -1, 6, -1, 11, 8, 14, 0), Top: popups()}, nil},
		"an invoker in no document": {api.View{Tree: x, Popups: shown(3, 17), Top: []int{3}}, api.View{Tree: x, Popups: shown(3, 17), Top: []int{3}}, nil},
		// What else is wrong stays: nobody is taken out, and nobody comes, but for these reasons.
		"twice":           {api.View{Tree: x, Open: []int{1, 1}, Modal: []int{1}, Top: []int{1, 1}}, api.View{Tree: x, Open: []int{1, 1}, Modal: []int{1}, Top: []int{1, 1}}, nil},
		"twice, and gone": {api.View{Tree: x, Open: []int{7, 7}, Modal: []int{7}, Popups: shown(7, -1, 7, 7), Top: []int{7, 7}}, api.View{Tree: x}, []int{7, 7, 7, 7, 7}},
		"not on top":      {api.View{Tree: x, Modal: []int{1}, Popups: shown(3, -1)}, api.View{Tree: x, Modal: []int{1}, Popups: shown(3, -1)}, nil},
	} {
		if w, gone, e := top.Fix(c.v); e != api.OK || !slices.Equal(gone, c.gone) || !same(w, c.want) {
			t.Errorf("P10.2: %s: %v, %v, %d", name, w, gone, e)
		}
	}
}

// TestFixBehindChanges: what a tree loses is closed.
func TestFixBehindChanges(t *testing.T) {
	for name, c := range map[string]struct {
		change func(x api.Tree) api.Tree
		want   api.View
		gone   []int
	}{
		"a dialog with what is in it": {func(x api.Tree) api.Tree { x, _ = tree.Remove(x, 1); return x }, api.View{Open: []int{2, 13}, Popups: shown(14, 9, 3, -1), Top: []int{14, 3}}, []int{10, 1}},
		"a host with its shadow":      {func(x api.Tree) api.Tree { x, _ = tree.Remove(x, 9); return x }, api.View{Open: []int{2}, Modal: []int{10, 1}, Popups: shown(3, -1), Top: []int{1, 3, 10}}, []int{13, 14}},
		"a popover":                   {func(x api.Tree) api.Tree { x, _ = attr.Drop(x, 3, api.Popover); return x }, api.View{Open: []int{2, 13}, Modal: []int{10, 1}, Popups: shown(14, 9), Top: []int{14, 1, 10}}, []int{3}},
	} {
		v := busy()
		v.Tree = c.change(v.Tree)
		c.want.Tree = v.Tree
		if w, gone, e := top.Fix(v); e != api.OK || !slices.Equal(gone, c.gone) || !same(w, c.want) || top.Check(w) != api.OK {
			t.Errorf("P10.2: %s: %v, %v, %d", name, w, gone, e)
		}
	}
}

func TestHighest(t *testing.T) {
	x := sample()
	for i, c := range []struct {
		v    api.View
		want int
	}{
		{api.View{Tree: x}, -1}, {api.View{Tree: x, Open: []int{1, 2}}, -1}, {api.View{Tree: x, Popups: shown(3, -1, 6, -1), Top: []int{3, 6}}, -1},
		{api.View{Tree: x, Modal: []int{1}, Top: []int{1}}, 1}, {api.View{Tree: x, Modal: []int{1, 2}, Top: []int{1, 2}}, 2}, {api.View{Tree: x, Modal: []int{1, 2}, Top: []int{2, 1}}, 1},
		{api.View{Tree: x, Modal: []int{1, 2}, Popups: shown(3, -1, 6, -1), Top: []int{6, 2, 1, 3}}, 1}, {busy(), 10},
		{api.View{}, -1}, {api.View{Tree: x, Modal: []int{1, 16}, Top: []int{1, 16}}, -1},
	} {
		if got := top.Highest(c.v); got != c.want {
			t.Errorf("P10.3: case %d: %d", i, got)
		}
	}
}

func TestDialog(t *testing.T) {
	x := sample()
	for _, n := range dialogs() {
		v := api.View{Tree: x, Popups: shown(3, -1), Top: []int{3}}
		w, e := top.Dialog(v, n, true)
		if e != api.OK || !same(w, api.View{Tree: x, Modal: []int{n}, Popups: shown(3, -1), Top: []int{3, n}}) {
			t.Errorf("P10.4: %d, modal: %v, %d", n, w, e)
		}
		w, e = top.Dialog(v, n, false)
		if e != api.OK || !same(w, api.View{Tree: x, Open: []int{n}, Popups: shown(3, -1), Top: []int{3}}) {
			t.Errorf("P10.4: %d: %v, %d", n, w, e)
		}
	}
	// Behind all.
	want := busy()
	want.Modal, want.Top = append(want.Modal, 15), append(want.Top, 15)
	if w, e := top.Dialog(busy(), 15, true); e != api.OK || !same(w, want) {
		t.Errorf("P10.4: behind all: %v, %d", w, e)
	}
	want = busy()
	want.Open = append(want.Open, 15)
	if w, e := top.Dialog(busy(), 15, false); e != api.OK || !same(w, want) {
		t.Errorf("P10.4: behind all: %v, %d", w, e)
	}
	open := api.View{Tree: x, Open: []int{2}, Modal: []int{1}, Popups: shown(6, -1), Top: []int{6, 1}}
	for n := range x {
		want := api.OK
		switch {
		case !slices.Contains(dialogs(), n):
			want = api.ErrKind
		case n == 1 || n == 2 || n == 6:
			want = api.ErrState
		}
		refusesDialog(t, open, n, want)
	}
	for _, n := range outside(len(x)) {
		refusesDialog(t, open, n, api.ErrNode)
	}
}

func refusesDialog(t *testing.T, v api.View, n int, want api.Errno) {
	t.Helper()
	for _, modal := range []bool{true, false} {
		w, e := top.Dialog(v, n, modal)
		if e != want || e != api.OK && !same(w, v) {
			t.Errorf("P10.4: Dialog of %d, %t: %v, %d", n, modal, w, e)
		}
	}
}

func TestPopup(t *testing.T) {
	x := sample()
	for _, n := range popups() {
		for _, invoker := range []int{-1, 0, n, 8, 17, len(x) - 1} {
			v := api.View{Tree: x, Modal: []int{1}, Top: []int{1}}
			w, e := top.Popup(v, api.Shown{Node: n, Invoker: invoker})
			if e != api.OK || !same(w, api.View{Tree: x, Modal: []int{1}, Popups: shown(n, invoker), Top: []int{1, n}}) {
				t.Errorf("P10.4: %d by %d: %v, %d", n, invoker, w, e)
			}
		}
	}
	want := busy()
	want.Popups, want.Top = append(want.Popups, api.Shown{Node: 4, Invoker: 2}), append(want.Top, 4)
	if w, e := top.Popup(busy(), api.Shown{Node: 4, Invoker: 2}); e != api.OK || !same(w, want) {
		t.Errorf("P10.4: behind all: %v, %d", w, e)
	}
	for _, v := range []api.View{{Tree: x, Open: []int{6}}, {Tree: x, Modal: []int{6}, Top: []int{6}}, {Tree: x, Popups: shown(6, 0), Top: []int{6}}} {
		refusesPopup(t, v, api.Shown{Node: 6, Invoker: -1}, api.ErrState)
		refusesPopup(t, v, api.Shown{Node: 6, Invoker: len(x)}, api.ErrNode)
	}
	v := busy()
	for _, n := range notPopups() {
		kind := api.ErrKind
		if n < 0 || n >= len(x) {
			kind = api.ErrNode
		}
		refusesPopup(t, v, api.Shown{Node: n, Invoker: -1}, kind)
		refusesPopup(t, v, api.Shown{Node: n, Invoker: 3}, kind)
	}
	for _, bad := range outside(len(x))[1:] {
		for _, n := range []int{3, 4, 7, 99} {
			refusesPopup(t, v, api.Shown{Node: n, Invoker: bad}, api.ErrNode)
		}
	}
}

func refusesPopup(t *testing.T, v api.View, x api.Shown, want api.Errno) {
	t.Helper()
	if w, e := top.Popup(v, x); e != want || !same(w, v) {
		t.Errorf("P10.4: Popup of %v: %v, %d", x, w, e)
	}
}

func TestClose(t *testing.T) {
	for n, change := range map[int]func(v *api.View){
		2:  func(v *api.View) { v.Open = []int{13} },
		13: func(v *api.View) { v.Open = []int{2} },
		10: func(v *api.View) { v.Modal, v.Top = []int{1}, []int{14, 1, 3} },
		1:  func(v *api.View) { v.Modal, v.Top = []int{10}, []int{14, 3, 10} },
		14: func(v *api.View) { v.Popups, v.Top = shown(3, -1), []int{1, 3, 10} },
		3:  func(v *api.View) { v.Popups, v.Top = shown(14, 9), []int{14, 1, 10} },
	} {
		want := busy()
		change(&want)
		if w, e := top.Close(busy(), n); e != api.OK || !same(w, want) {
			t.Errorf("P10.4: Close of %d: %v, %d", n, w, e)
		}
	}
	for _, n := range []int{0, 4, 6, 7, 8, 9, 11, 12, 15, 16, 17, 21} {
		if w, e := top.Close(busy(), n); e != api.ErrState || !same(w, busy()) {
			t.Errorf("P10.4: Close of %d: %v, %d", n, w, e)
		}
	}
	for _, n := range outside(len(sample())) {
		if w, e := top.Close(busy(), n); e != api.ErrNode || !same(w, busy()) {
			t.Errorf("P10.4: Close of %d: %v, %d", n, w, e)
		}
	}
	// Whoever was invoked by it stays.
	v := api.View{Tree: sample(), Popups: shown(3, -1, 4, 3), Top: []int{3, 4}}
	if w, e := top.Close(v, 3); e != api.OK || !same(w, api.View{Tree: v.Tree, Popups: shown(4, 3), Top: []int{4}}) {
		t.Errorf("P10.4: Close of an invoker: %v, %d", w, e)
	}
}

// TestExample: the chapter's one.
func TestExample(t *testing.T) {
	x := api.Tree{{Kind: api.Document, Parent: -1, Kids: []int{1, 2}, Host: -1, Root: -1}, el(api.Dialog, 0), el(api.Box, 0)}
	v, _ := top.Dialog(api.View{Tree: with(x, 2, api.Popover, api.Auto)}, 1, true)
	v, e := top.Popup(v, api.Shown{Node: 2, Invoker: -1})
	if e != api.OK || !slices.Equal(v.Top, []int{1, 2}) || top.Highest(v) != 1 {
		t.Errorf("P10.4: %v, %d", v, e)
	}
}

// TestLong: lists of any length are judged, within the time of a glance.
func TestLong(t *testing.T) {
	x := sample()
	v := api.View{Tree: x, Open: slices.Repeat([]int{7, 1}, 50000), Modal: slices.Repeat([]int{1}, 50000), Popups: slices.Repeat(shown(3, 99), 50000), Top: slices.Repeat([]int{7, 3}, 50000)}
	if e := top.Check(v); e != api.ErrState {
		t.Errorf("P10.1: %d", e)
	}
	v.Open, v.Popups = slices.Repeat([]int{1}, 100000), nil
	if e := top.Check(v); e != api.ErrState {
		t.Errorf("P10.1: %d", e)
	}
}

// anyView has lists of which some are right, and some are almost so.
func anyView(r *rand.Rand, x api.Tree) api.View {
	v := api.View{Tree: x}
	n := func() int { return r.Intn(len(x)+2) - 1 }
	for _, at := range r.Perm(len(x)) {
		wrong := r.Intn(30) == 0
		if (canBeDialog(x, at) || wrong) && r.Intn(2) == 0 {
			if r.Intn(2) == 0 {
				v.Open = append(v.Open, at)
				continue
			}
			v.Modal, v.Top = append(v.Modal, at), append(v.Top, at)
		} else if canBePopup(x, at) || wrong {
			v.Popups, v.Top = append(v.Popups, api.Shown{Node: at, Invoker: r.Intn(len(x)+1) - 1}), append(v.Top, at)
		}
	}
	r.Shuffle(len(v.Top), func(i int, k int) { v.Top[i], v.Top[k] = v.Top[k], v.Top[i] })
	switch r.Intn(12) {
	case 0:
		v.Open = append(v.Open, n())
	case 1:
		v.Modal = append(v.Modal, n())
	case 2:
		v.Popups = append(v.Popups, api.Shown{Node: n(), Invoker: n()})
	case 3:
		v.Top = append(v.Top, n())
	case 4:
		if len(v.Top) > 0 {
			v.Top = v.Top[1:]
		}
	case 5:
		if len(v.Popups) > 0 {
			v.Popups[0].Invoker = -2
		}
	}
	return v
}

// fixed says P10.2's words again.
func fixed(v api.View) (api.View, []int) {
	w := api.View{Tree: v.Tree}
	var gone []int
	for _, n := range v.Open {
		if canBeDialog(v.Tree, n) {
			w.Open = append(w.Open, n)
		} else {
			gone = append(gone, n)
		}
	}
	for _, n := range v.Modal {
		if canBeDialog(v.Tree, n) {
			w.Modal = append(w.Modal, n)
		} else {
			gone = append(gone, n)
		}
	}
	for _, p := range v.Popups {
		if p.Invoker >= len(v.Tree) || p.Invoker < 0 {
			p.Invoker = -1
		}
		if canBePopup(v.Tree, p.Node) {
			w.Popups = append(w.Popups, p)
		} else {
			gone = append(gone, p.Node)
		}
	}
	for _, n := range v.Top {
		if slices.Contains(w.Modal, n) || slices.ContainsFunc(w.Popups, func(p api.Shown) bool { return p.Node == n }) {
			w.Top = append(w.Top, n)
		}
	}
	return w, gone
}

func TestAgainstTheWords(t *testing.T) {
	r := rand.New(rand.NewSource(10))
	may, mayNot, lost := 0, 0, 0
	for range 3000 {
		v := anyView(r, grow(r, r.Intn(150)))
		kept := top.Copy(v)
		want := api.OK
		if mayBe(v) {
			may++
		} else {
			want = api.ErrState
			mayNot++
		}
		if e := top.Check(v); e != want {
			t.Fatalf("P10.1: %d, not %d: %+v", e, want, v)
		}
		for range 5 {
			againstTheWords(t, v)
			v.Tree = change(r, v.Tree)
			if some := slices.Concat(v.Open, v.Top); len(some) > 0 && r.Intn(5) == 0 {
				v.Tree, _ = tree.Remove(v.Tree, some[r.Intn(len(some))])
			}
		}
		w, gone := fixed(v)
		if len(gone) > 0 && want == api.OK {
			lost++
		}
		if want == api.OK && top.Check(w) != api.OK {
			t.Fatalf("P10.2: a view that may be is spoiled: %+v", w)
		}
		v.Tree = kept.Tree
		if !same(v, kept) {
			t.Fatal("R5: the view is changed")
		}
	}
	if may < 500 || mayNot < 500 || lost < 100 {
		t.Fatalf("too few views may be, may not be, or lose somebody: %d, %d, %d", may, mayNot, lost)
	}
}

func againstTheWords(t *testing.T, v api.View) {
	t.Helper()
	want, wantGone := fixed(v)
	w, gone, e := top.Fix(v)
	if e != api.OK || !same(w, want) || !slices.Equal(gone, wantGone) {
		t.Fatalf("P10.2: %+v, %v, %d, not %+v, %v", w, gone, e, want, wantGone)
	}
	high := -1
	for _, n := range v.Top {
		if mayBe(v) && slices.Contains(v.Modal, n) {
			high = n
		}
	}
	if got := top.Highest(v); got != high {
		t.Fatalf("P10.3: %d, not %d: %+v", got, high, v)
	}
}

// TestStays: a view that may be stays one, whatever is opened and closed; what was opened last is highest.
func TestStays(t *testing.T) {
	r := rand.New(rand.NewSource(11))
	counts := map[api.Errno]int{}
	for range 150 {
		v := api.View{Tree: grow(r, 80+r.Intn(150))}
		for range 100 {
			n := r.Intn(len(v.Tree)+2) - 1
			if some := slices.Concat(v.Open, v.Modal, v.Top); len(some) > 0 && r.Intn(3) == 0 {
				n = some[r.Intn(len(some))]
			}
			modal := r.Intn(2) == 0
			var w api.View
			var e api.Errno
			switch kind := r.Intn(5); kind {
			case 0, 1:
				w, e = top.Dialog(v, n, modal)
				if e == api.OK && modal && top.Highest(w) != n {
					t.Fatalf("P10.5: %d, not %d", top.Highest(w), n)
				}
			case 2, 3:
				w, e = top.Popup(v, api.Shown{Node: n, Invoker: r.Intn(len(v.Tree)+2) - 1})
				if e == api.OK && w.Top[len(w.Top)-1] != n {
					t.Fatalf("P10.5: %v", w.Top)
				}
			default:
				w, e = top.Close(v, n)
				if e == api.OK && slices.Contains(slices.Concat(w.Open, w.Modal, w.Top), n) {
					t.Fatalf("P10.4: %d is there yet", n)
				}
			}
			counts[e]++
			if !mayBe(w) || top.Check(w) != api.OK || e != api.OK && !same(v, w) {
				t.Fatalf("P10.5: %+v", w)
			}
			v = w
		}
	}
	for _, e := range []api.Errno{api.OK, api.ErrNode, api.ErrKind, api.ErrState} {
		if counts[e] < 200 {
			t.Errorf("too few of error %d: %d", e, counts[e])
		}
	}
}

func TestCopy(t *testing.T) {
	for name, v := range unfit() {
		if w := top.Copy(v); !same(w, v) {
			t.Errorf("P10.1: %s: %v", name, w)
		}
	}
	if w := top.Copy(busy()); !same(w, busy()) {
		t.Errorf("P10.1: %v", w)
	}
	if w := top.Copy(api.View{}); !same(w, api.View{}) {
		t.Errorf("P10.1: %v", w)
	}
}

// roomy is busy, in lists with room behind them: who writes there writes to what was handed in.
func roomy() api.View {
	v := busy()
	v.Open, v.Modal, v.Top = slices.Grow(v.Open, 9), slices.Grow(v.Modal, 9), slices.Grow(v.Top, 9)
	v.Popups = slices.Grow(v.Popups, 9)
	return v
}

func spoil(v api.View) {
	for n := range v.Tree {
		clear(v.Tree[n].Kids)
		clear(v.Tree[n].Attrs)
		v.Tree[n].Kind = 9
	}
	clear(v.Open[:cap(v.Open)])
	clear(v.Modal[:cap(v.Modal)])
	clear(v.Popups[:cap(v.Popups)])
	clear(v.Top[:cap(v.Top)])
}

// TestOwnMemory: what is answered shares nothing with what was handed in, and the same again is the same.
func TestOwnMemory(t *testing.T) {
	v := roomy()
	calls := map[string]func() api.View{
		"Copy":          func() api.View { return top.Copy(v) },
		"Fix":           func() api.View { w, _, _ := top.Fix(v); return w },
		"Dialog":        func() api.View { w, _ := top.Dialog(v, 15, false); return w },
		"Dialog, modal": func() api.View { w, _ := top.Dialog(v, 15, true); return w },
		"Popup":         func() api.View { w, _ := top.Popup(v, api.Shown{Node: 4, Invoker: 4}); return w },
		"Close":         func() api.View { w, _ := top.Close(v, 3); return w },
	}
	for name, call := range calls {
		first := call()
		second := call()
		kept := top.Copy(second)
		spoil(first)
		if !same(v, busy()) || !same(second, kept) {
			t.Errorf("R5: %s: a change of the answer", name)
		}
		for _, rest := range [][]int{v.Open[2:5], v.Modal[2:5], v.Top[4:7]} {
			if !slices.Equal(rest, []int{0, 0, 0}) {
				t.Errorf("R5: %s writes behind a list: %v", name, rest)
			}
		}
		third := call()
		spoil(v)
		if !same(third, kept) {
			t.Errorf("R5, R6: %s: a change of what was handed in", name)
		}
		v = roomy()
	}
}
