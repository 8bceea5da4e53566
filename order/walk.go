package order

import (
	"iter"

	"limelight/api"
)

// up is for trees that may be, as all of this file: there it ends, and comes to nodes alone.
func up(t api.Tree, n int) iter.Seq[int] {
	return func(yield func(int) bool) {
		for at := n; at != none; at = t[at].Parent {
			if !yield(at) {
				return
			}
		}
	}
}

func down(t api.Tree, n int) iter.Seq[int] {
	return func(yield func(int) bool) {
		if !yield(n) {
			return
		}
		for _, kid := range t[n].Kids {
			for x := range down(t, kid) {
				if !yield(x) {
					return
				}
			}
		}
	}
}

func last(t api.Tree, n int) int {
	top := n
	for x := range up(t, n) {
		top = x
	}
	return top
}

func isAbove(t api.Tree, a int, b int) bool {
	for x := range up(t, b) {
		if x == a {
			return true
		}
	}
	return false
}
