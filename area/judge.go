package area

import (
	"slices"

	"limelight/api"
	"limelight/inert"
	"limelight/render"
)

// meets asks no further where one answer is no.
func meets(n int, asks ...func(int) bool) bool {
	for _, ask := range asks {
		if !ask(n) {
			return false
		}
	}
	return true
}

// judge has the questions, each with a yes for whom can be focused. It is for the nodes of a view that may be.
type judge struct {
	view api.View
}

func (j judge) indexed(n int) bool {
	_, is := index(j.view.Tree, n)
	return is
}

func (j judge) enabled(n int) bool {
	return !disabled(j.view.Tree, n)
}

// keeps is no where a host hands on to its shadow what it is given.
func (j judge) keeps(n int) bool {
	return !delegates(j.view.Tree, n)
}

func (j judge) drawn(n int) bool {
	return render.Is(j.view, n)
}

func (j judge) free(n int) bool {
	return !inert.Is(j.view, n)
}

// nodes has the questions of a list, in the place of those that look at the whole view for one node.
type nodes []int

func (l nodes) has(n int) bool {
	return slices.Contains(l, n)
}

func (l nodes) lacks(n int) bool {
	return !l.has(n)
}
