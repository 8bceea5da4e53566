package prog_test

import (
	"math"
	"math/rand"
	"regexp"
	"slices"
	"strconv"
	"strings"
	"testing"

	"limelight/api"
	"limelight/prog"
)

// The numbers of what is done fit whatever kind of integer they are asked as.
var kinds = []int8{prog.Focus, prog.Blur, prog.Insert, prog.Remove, prog.Set, prog.Drop, prog.Show, prog.Close, prog.Open, prog.Hide, prog.Click, prog.Stop, prog.StopNow, prog.Prevent, prog.Unlisten, prog.Steps}

var (
	names  = strings.Fields("focus blur insert remove set drop show close open hide click stop stopnow prevent unlisten")
	counts = []int{1, 0, 2, 1, 2, 2, 1, 1, 1, 1, 1, 0, 0, 0, 0}
)

// edges: numbers that a step may have, and numbers that none may have.
var (
	edges = []int{0, 1, 9, 10, 62, 63}
	wrong = []int{-1, 64, 65, 100, math.MinInt, math.MaxInt}
)

func checks(t *testing.T, l []prog.Step, want api.Errno) {
	t.Helper()
	if e := prog.Check(l); e != want {
		t.Errorf("P20.1: %v: %d, not %d", l, e, want)
	}
	if want != api.OK {
		if s := prog.Text(l); s != "" {
			t.Errorf("P20.2: %v: %q", l, s)
		}
	}
}

// writes is about P20.4, too.
func writes(t *testing.T, l []prog.Step, want string) {
	t.Helper()
	checks(t, l, api.OK)
	if s := prog.Text(l); s != want {
		t.Errorf("P20.2: %v: %q, not %q", l, s, want)
	}
	if k, e := prog.Parse(want); e != api.OK || !slices.Equal(k, l) {
		t.Errorf("P20.3, P20.4: %q: %v, %d", want, k, e)
	}
}

func refused(t *testing.T, s string) {
	t.Helper()
	if l, e := prog.Parse(s); e != api.ErrLine || len(l) != 0 {
		t.Errorf("P20.3: %.80q: %v, %d", s, l, e)
	}
}

func TestNames(t *testing.T) {
	for do, kind := range kinds {
		if int(kind) != do {
			t.Errorf("the number of kind %d is %d", do, kind)
		}
	}
	for do, name := range names {
		if s := prog.Name(do); s != name {
			t.Errorf("P20.1: Name of %d: %q", do, s)
		}
	}
	for _, do := range append(wrong, prog.Steps) {
		if s := prog.Name(do); s != "" {
			t.Errorf("P20.1: Name of %d: %q", do, s)
		}
	}
}

// text is a name, and numbers behind it.
func text(name string, numbers ...int) string {
	for _, n := range numbers {
		name += " " + strconv.Itoa(n)
	}
	return name
}

// TestStep: each kind, with all numbers that one may have, and with others.
func TestStep(t *testing.T) {
	for do, name := range names {
		for _, a := range append(wrong, edges...) {
			for _, b := range append(wrong, edges...) {
				l, numbers := []prog.Step{{Do: do, A: a, B: b}}, []int{a, b}
				told, others := numbers[:counts[do]], numbers[counts[do]:]
				isWrong := func(n int) bool { return slices.Contains(wrong, n) }
				isNot0 := func(n int) bool { return n != 0 }
				if slices.ContainsFunc(told, isWrong) {
					refused(t, text(name, told...))
				}
				if slices.ContainsFunc(told, isWrong) || slices.ContainsFunc(others, isNot0) {
					checks(t, l, api.ErrArg)
				} else {
					writes(t, l, text(name, told...))
				}
			}
		}
	}
	for _, do := range append(wrong, prog.Steps) {
		for _, n := range append(wrong, edges...) {
			checks(t, []prog.Step{{Do: do, A: n}}, api.ErrArg)
			checks(t, []prog.Step{{Do: do, B: n}}, api.ErrArg)
		}
	}
}

// TestStepCounts: each name, with more numbers behind it than it has, and with fewer.
func TestStepCounts(t *testing.T) {
	for do, name := range names {
		for count := range 5 {
			for _, n := range edges {
				s := text(name, slices.Repeat([]int{n}, count)...)
				if _, e := prog.Parse(s); (e == api.OK) != (count == counts[do]) {
					t.Errorf("P20.3: %q: %d", s, e)
				}
			}
		}
	}
}

func TestCheckMany(t *testing.T) {
	writes(t, nil, "")
	writes(t, []prog.Step{}, "")
	stop := prog.Step{Do: prog.Stop}
	for count := 1; count <= 40; count++ {
		l := slices.Repeat([]prog.Step{stop}, count)
		s := strings.Repeat("stop;", count-1) + "stop"
		if count > 16 {
			checks(t, l, api.ErrArg)
			refused(t, s)
			continue
		}
		writes(t, l, s)
		// One that may not be spoils all, wherever it stands.
		for at := range l {
			for _, bad := range []prog.Step{{Do: -1}, {Do: prog.Steps}, {Do: prog.Stop, A: 1}, {Do: prog.Focus, A: 64}} {
				k := slices.Clone(l)
				k[at] = bad
				checks(t, k, api.ErrArg)
			}
		}
	}
	checks(t, make([]prog.Step, 1<<20), api.ErrArg)
}

func TestText(t *testing.T) {
	writes(t, []prog.Step{{Do: prog.Focus, A: 3}, {Do: prog.Stop}}, "focus 3;stop") // the chapter's example
	writes(t, []prog.Step{{Do: prog.Stop}, {Do: prog.Focus, A: 3}}, "stop;focus 3")
	writes(t, []prog.Step{{}, {}, {}}, "focus 0;focus 0;focus 0")
	writes(t, []prog.Step{{Do: prog.Insert, A: 10, B: 7}, {Do: prog.Set, B: 63}, {Do: prog.Drop, A: 63}}, "insert 10 7;set 0 63;drop 63 0")
	writes(t, []prog.Step{{Do: prog.StopNow}, {Do: prog.Stop}, {Do: prog.Unlisten}, {Do: prog.Prevent}, {Do: prog.Blur}}, "stopnow;stop;unlisten;prevent;blur")
	longest := slices.Repeat([]prog.Step{{Do: prog.Insert, A: 63, B: 63}}, 16)
	writes(t, longest, strings.Repeat("insert 63 63;", 15)+"insert 63 63")
}

func TestParseWrong(t *testing.T) {
	for _, s := range []string{
		" ", ";", ";;", "\n", "\x00", "x", "0", "1 2", "focus", "focus ", "focus  3", "focus 3 ", " focus 3", "focus\t3", "focus 3\n", "focus\u00a03", "focus3", "focus;3",
		"focus 64", "focus 99", "focus 100", "focus -1", "focus -0", "focus +3", "focus 03", "focus 00", "focus 3.0", "focus 0x3", "focus 0b1", "focus 1_0", "focus 1e1", "focus x", "focus 3x", "focus \u0663", "focus \uff13", "focus \xff",
		"focus 3 0", "focus 3 4", "focus 3 4 5", "blur 0", "blur ", "stop now", "stop 0 0", "insert", "insert 1", "insert 1 ", "insert 1  2", "insert 1 2 ", "insert 1 2 0", "insert 1 2 3 4", "insert 01 2", "insert 1 02", "insert 1 64", "insert 64 1",
		"Focus 3", "FOCUS 3", "foc\u017fus 3", "focu 3", "focuss 3", "stopn", "stopno", "stopnows", "steps", "steps 0",
		"focus 3;", ";focus 3", "focus 3;;stop", "focus 3; stop", "focus 3 ;stop", "focus 3,stop", "stop\nstop", "stop;x", "x;stop",
		"focus 2147483648", "focus 4294967299", "focus 18446744073709551619", "focus -18446744073709551613", "focus " + strings.Repeat("9", 5000), "focus " + strings.Repeat("0", 5000), "focus " + strings.Repeat("0", 5000) + "3",
		strings.Repeat(";", 15), strings.Repeat(";", 16), strings.Repeat(";", 17), strings.Repeat(" ", 100), strings.Repeat("stop;", 16), strings.Repeat("stop;", 1<<18), strings.Repeat("focus ", 1<<18), strings.Repeat("\xff", 1<<18),
	} {
		refused(t, s)
		refused(t, s+";stop")
		refused(t, "stop;"+s)
		refused(t, "stop;"+s+";stop")
	}
	for _, s := range []string{";stop", "stop;", "stop;;stop"} { // the text without steps is no step of another one
		refused(t, s)
	}
}

// grammar says the words of the chapter again, of all but how many steps there are.
var grammar = func() *regexp.Regexp {
	number := " (0|[1-9]|[1-5][0-9]|6[0-3])"
	step := "((blur|stop|stopnow|prevent|unlisten)|(insert|set|drop)" + number + number + "|(focus|remove|show|close|open|hide|click)" + number + ")"
	return regexp.MustCompile("^" + step + "(;" + step + "){0,15}$")
}()

// TestParseAgainstTheWords: texts that are put together of pieces, and texts of programs, in which a byte is changed.
func TestParseAgainstTheWords(t *testing.T) {
	r := rand.New(rand.NewSource(20))
	pieces := slices.Concat(names, names, strings.Fields("; ; ; 0 7 63 64 07 -1 +1 x"), []string{" ", " ", " ", " "})
	reached := [2]int{}
	for range 60000 {
		var s string
		if r.Intn(2) == 0 {
			for range r.Intn(7) {
				s += pieces[r.Intn(len(pieces))]
			}
		} else {
			s = changed(r, prog.Text(anyProgram(r)))
		}
		if s == "" {
			continue
		}
		if !grammar.MatchString(s) {
			refused(t, s)
			reached[0]++
			continue
		}
		l, e := prog.Parse(s)
		if e != api.OK || len(l) != 1+strings.Count(s, ";") || prog.Text(l) != s {
			t.Errorf("P20.3: %q: %v, %d", s, l, e)
		}
		reached[1]++
	}
	if slices.Min(reached[:]) < 5000 {
		t.Errorf("too few: %v", reached)
	}
}

func anyProgram(r *rand.Rand) []prog.Step {
	var l []prog.Step
	for range r.Intn(17) {
		do := r.Intn(prog.Steps)
		s := prog.Step{Do: do}
		if counts[do] > 0 {
			s.A = r.Intn(64)
		}
		if counts[do] > 1 {
			s.B = r.Intn(64)
		}
		l = append(l, s)
	}
	return l
}

// changed changes, takes out, or puts in one byte, or none.
func changed(r *rand.Rand, s string) string {
	if s == "" {
		return s
	}
	at, by := r.Intn(len(s)), string(" ;0123456789st\x00\xff"[r.Intn(16)])
	switch r.Intn(4) {
	case 0:
		return s[:at] + by + s[at+1:]
	case 1:
		return s[:at] + s[at+1:]
	case 2:
		return s[:at] + by + s[at:]
	}
	return s
}

// TestThereAndBack is about P20.4.
func TestThereAndBack(t *testing.T) {
	r := rand.New(rand.NewSource(21))
	for range 3000 {
		l := anyProgram(r)
		var steps []string
		for _, s := range l {
			steps = append(steps, text(names[s.Do], []int{s.A, s.B}[:counts[s.Do]]...))
		}
		writes(t, l, strings.Join(steps, ";"))
	}
}

// TestOwnMemory: what is answered shares nothing with what the program keeps, and what is handed in is not changed.
func TestOwnMemory(t *testing.T) {
	s := "focus 1;insert 2 3;stop"
	want := []prog.Step{{Do: prog.Focus, A: 1}, {Do: prog.Insert, A: 2, B: 3}, {Do: prog.Stop}}
	first, _ := prog.Parse(s)
	second, _ := prog.Parse(s)
	for i := range first {
		first[i] = prog.Step{Do: -7}
	}
	_ = append(first, prog.Step{Do: -7})
	third, _ := prog.Parse(s)
	if !slices.Equal(second, want) || !slices.Equal(third, want) {
		t.Error("R5, R6: a change of the answer")
	}
	l := slices.Grow(slices.Clone(want), 4)
	if prog.Check(l) != api.OK || prog.Text(l) != s || prog.Text(l) != s || !slices.Equal(l, want) || l[:4][3] != (prog.Step{}) {
		t.Errorf("R5, R6: %v", l)
	}
}
