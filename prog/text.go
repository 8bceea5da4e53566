package prog

import (
	"strconv"
	"strings"

	"limelight/api"
)

// What stands between steps, and between the words of one.
const (
	stepEnd = ";"
	blank   = " "
)

// Text is empty of the program without steps as it is of one that may not be: Check tells them apart.
func Text(l []Step) string {
	if Check(l) != api.OK {
		return ""
	}
	var all []string
	for _, s := range l {
		all = append(all, write(s))
	}
	return strings.Join(all, stepEnd)
}

// Parse reads loosely, and then asks Text whether that is how it is written: so it takes no second way to write a program.
func Parse(s string) ([]Step, api.Errno) {
	if s == "" {
		return nil, api.OK
	}
	var l []Step
	// Of too many steps all that is left stays in the last piece, which so is no step.
	for _, piece := range strings.SplitN(s, stepEnd, api.MaxProg) {
		l = append(l, read(piece))
	}
	if Text(l) != s {
		return nil, api.ErrLine
	}
	return l, api.OK
}

// write is for steps that may be.
func write(s Step) string {
	text := forms[s.Do].name
	for _, n := range []int{s.A, s.B}[:forms[s.Do].numbers] {
		text += blank + strconv.Itoa(n)
	}
	return text
}

// read takes for 0 what is no number, or is not there: Text does not write it so.
func read(s string) Step {
	words := strings.SplitN(s, blank, 3)
	var numbers [2]int
	for at, word := range words[1:] {
		numbers[at], _ = strconv.Atoi(word)
	}
	return Step{Do: kindOf(words[0]), A: numbers[0], B: numbers[1]}
}

// kindOf is Steps, which is no kind, of a name that nothing has.
func kindOf(name string) int {
	do := 0
	for do < Steps && forms[do].name != name {
		do++
	}
	return do
}
