package popup

import (
	"slices"

	"limelight/api"
	"limelight/flat"
)

// stackOf is for views that may be, as all of this file.
func stackOf(v api.View) []int {
	var autos, hints []int
	for _, x := range v.Popups {
		switch kind(v.Tree, x.Node) {
		case api.Auto:
			autos = append(autos, x.Node)
		case api.Hint:
			hints = append(hints, x.Node)
		}
	}
	return append(autos, hints...)
}

// waysUp leaves out x's Node where one begins with it, but not where one comes to it from the Invoker. Who is no node has no way up.
func waysUp(t api.Tree, x api.Shown) [][]int {
	return [][]int{flat.Up(t, x.Node)[1:], flat.Up(t, x.Invoker)}
}

// descend goes down the stack as far as the first one that is on one of the ways: it tells that one, or none, and whom it has passed.
func descend(stack []int, ways ...[]int) (int, []int) {
	at := none
	var passed []int
down:
	for _, n := range slices.Backward(stack) {
		for _, way := range ways {
			if slices.Contains(way, n) {
				at = n
				break down
			}
		}
		passed = append(passed, n)
	}
	return at, passed
}
