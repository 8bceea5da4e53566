package slots

import (
	"iter"
	"slices"

	"limelight/api"
	"limelight/attr"
	"limelight/shade"
)

// shelf is what kids are laid by: it is asked of the tree once for all of them.
type shelf struct {
	manual bool
	slots  []int
	names  []int
}

// shelfOf is for the Shadows of trees that may be, as all of this file.
func shelfOf(t api.Tree, root int) shelf {
	s := shelf{manual: attr.Has(t, root, api.Manual), slots: slotsOf(t, root)}
	if s.manual {
		return s
	}
	for _, slot := range s.slots {
		s.names = append(s.names, nameOf(t, slot))
	}
	return s
}

func (s shelf) place(t api.Tree, kid int) int {
	if s.manual {
		return s.byNumber(t, kid)
	}
	return s.byName(t, kid)
}

// byNumber takes no number on trust: anything may stand in an attribute.
func (s shelf) byNumber(t api.Tree, kid int) int {
	slot, is := attr.Get(t, kid, api.SlotAt)
	if !is || !slices.Contains(s.slots, slot) {
		return none
	}
	return slot
}

func (s shelf) byName(t api.Tree, kid int) int {
	at := slices.Index(s.names, nameOf(t, kid))
	if at < 0 {
		return none
	}
	return s.slots[at]
}

// laid tells the kids of a shadow's host, each with its slot, or with none.
func laid(t api.Tree, root int) iter.Seq2[int, int] {
	return func(yield func(int, int) bool) {
		s := shelfOf(t, root)
		for _, kid := range t[shade.Host(t, root)].Kids {
			if !yield(kid, s.place(t, kid)) {
				return
			}
		}
	}
}

// nameOf need not ask who has a name: to have none, as a Text, is to have 0.
func nameOf(t api.Tree, n int) int {
	name, _ := attr.Get(t, n, api.Name)
	return name
}
