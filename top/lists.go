package top

import (
	"cmp"
	"slices"

	"limelight/api"
	"limelight/attr"
	"limelight/shade"
)

// mayBe is for views whose tree may be. It asks who is there twice when all are known to be nodes, so that no list is too long for it.
func mayBe(v api.View) bool {
	j := judgeOf(v.Tree)
	if !every(v.Open, j.dialog) || !every(v.Modal, j.dialog) || !every(v.Popups, j.popup) {
		return false
	}
	if !every(v.Popups, func(x api.Shown) bool { return invokerFits(v.Tree, x) }) {
		return false
	}
	return !hasTwice(opened(v)) && sameOnes(v.Top, raised(v))
}

// judge tells what nodes of a tree can be. Who is connected is asked for once, not at every node.
type judge struct {
	tree      api.Tree
	connected []int
}

// judgeOf is for trees that may be.
func judgeOf(t api.Tree) judge {
	return judge{tree: t, connected: shade.List(t, 0)}
}

// dialog need not ask for an Element: no other node has a Tag. Numbers that are no nodes are not connected.
func (j judge) dialog(n int) bool {
	return slices.Contains(j.connected, n) && j.tree[n].Tag == api.Dialog
}

// popup need not ask for an Element: no other node may have a Popover.
func (j judge) popup(x api.Shown) bool {
	return slices.Contains(j.connected, x.Node) && attr.Has(j.tree, x.Node, api.Popover)
}

func isNode(t api.Tree, n int) bool {
	return n >= 0 && n < len(t)
}

func invokerFits(t api.Tree, x api.Shown) bool {
	return x.Invoker == none || isNode(t, x.Invoker)
}

func opened(v api.View) []int {
	return slices.Concat(v.Open, raised(v))
}

// raised are those who must be in the top layer.
func raised(v api.View) []int {
	return slices.Concat(v.Modal, nodes(v.Popups))
}

func nodes(l []api.Shown) []int {
	var all []int
	for _, x := range l {
		all = append(all, x.Node)
	}
	return all
}

func every[T any](l []T, is func(T) bool) bool {
	for _, x := range l {
		if !is(x) {
			return false
		}
	}
	return true
}

func hasTwice[T comparable](l []T) bool {
	for at, x := range l {
		if slices.Contains(l[:at], x) {
			return true
		}
	}
	return false
}

// sameOnes is whether two lists have the same, each as often, in whatever order.
func sameOnes[T cmp.Ordered](a []T, b []T) bool {
	return slices.Equal(slices.Sorted(slices.Values(a)), slices.Sorted(slices.Values(b)))
}

// part tells who stays, and who goes, in memory of its own.
func part[T any](l []T, stays func(T) bool) (stay []T, gone []T) {
	for _, x := range l {
		if stays(x) {
			stay = append(stay, x)
		} else {
			gone = append(gone, x)
		}
	}
	return stay, gone
}
