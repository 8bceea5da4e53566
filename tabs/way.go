package tabs

import (
	"iter"
	"slices"

	"limelight/api"
	"limelight/area"
	"limelight/scopes"
)

// way keeps what would else be asked of the whole view at every item: who can be focused, and the places of the Popups, in their order.
type way struct {
	view   api.View
	areas  []int
	places []int
}

// newWay is for views that may be.
func newWay(v api.View) way {
	w := way{view: v, areas: area.All(v)}
	for _, x := range v.Popups {
		w.places = append(w.places, scopes.Place(v, x.Node))
	}
	return w
}

// scope ends: it comes to nobody twice, as nobody is an item of two scopes, or has two places, and who has a place is no item. It need not ask who owns a scope: of all others there are no items.
func (w way) scope(owner int) iter.Seq[int] {
	return func(yield func(int) bool) {
		for _, n := range w.row(owner) {
			if w.stops(n) && !yield(n) {
				return
			}
			for x := range w.scope(n) {
				if !yield(x) {
					return
				}
			}
		}
	}
}

// row is the items, and behind each one the popups whose place it is.
func (w way) row(owner int) []int {
	var all []int
	for _, item := range scopes.Items(w.view, owner) {
		all = append(all, item)
		for at, place := range w.places {
			if place == item {
				all = append(all, w.view.Popups[at].Node)
			}
		}
	}
	return all
}

// stops is area.Tabs. It asks the list first: that costs least.
func (w way) stops(n int) bool {
	if !slices.Contains(w.areas, n) {
		return false
	}
	i, _ := area.Index(w.view.Tree, n)
	return i >= 0
}
