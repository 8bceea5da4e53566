package scopes

import (
	"cmp"
	"slices"
)

// row is an item, with the number that it stands by.
type row struct {
	node  int
	index int
}

// table is rows as the flat tree has them, and how two of them are held against each other.
type table struct {
	rows    []row
	compare func(a row, b row) int
}

// sort leaves those where they stand that are held to be equal.
func (l *table) sort() {
	slices.SortStableFunc(l.rows, l.compare)
}

func (l *table) nodes() []int {
	var all []int
	for _, x := range l.rows {
		all = append(all, x.node)
	}
	return all
}

// byIndex has 0 behind all other numbers, as who has none asks for no place of its own.
func byIndex(a row, b row) int {
	if a.index == 0 || b.index == 0 {
		return cmp.Compare(b.index, a.index)
	}
	return cmp.Compare(a.index, b.index)
}
