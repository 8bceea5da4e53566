package tree

import (
	"iter"

	"limelight/api"
)

// ancestors tells whom one comes to, going up from n. It goes up as often as there are nodes at most: so it ends in a loop, too, and comes round in it once at least.
func ancestors(t api.Tree, n int) iter.Seq[int] {
	return func(yield func(int) bool) {
		at := n
		for range len(t) {
			at = over(t[at])
			if at == none || !yield(at) {
				return
			}
		}
	}
}

func over(x api.Node) int {
	if x.Kind == api.Shadow {
		return x.Host
	}
	return x.Parent
}

func isAncestor(t api.Tree, a int, n int) bool {
	for above := range ancestors(t, n) {
		if above == a {
			return true
		}
	}
	return false
}

func hasLoop(t api.Tree) bool {
	for n := range t {
		if isAncestor(t, n, n) {
			return true
		}
	}
	return false
}
