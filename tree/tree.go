// Package tree is layer 1, nodes by their numbers: see shared/doc/01-tree.md.
package tree

import (
	"slices"

	"limelight/api"
)

// none is the number of no node.
const none = -1

// Check is asked ahead of every other call, so it takes trees of any shape.
func Check(t api.Tree) api.Errno {
	if !mayBe(t) {
		return api.ErrArg
	}
	return api.OK
}

// New is the smallest tree that may be.
func New() api.Tree {
	return api.Tree{lone(api.Document, 0)}
}

// Make adds a node that has nobody yet: Insert gives it a place.
func Make(t api.Tree, kind int, tag int) (api.Tree, int, api.Errno) {
	if !mayBe(t) {
		return nil, 0, api.ErrArg
	}
	if kind != api.Element && kind != api.Text || !tagFits(kind, tag) {
		return t, 0, api.ErrKind
	}
	if len(t) == api.MaxNodes {
		return t, 0, api.ErrFull
	}
	return append(Copy(t), lone(kind, tag)), len(t), api.OK
}

// Attach lays a shadow over a host, which stays where it is.
func Attach(t api.Tree, host int) (api.Tree, int, api.Errno) {
	if !mayBe(t) {
		return nil, 0, api.ErrArg
	}
	if e := attachFault(t, host); e != api.OK {
		return t, 0, e
	}
	root := len(t)
	next := append(Copy(t), lone(api.Shadow, 0))
	next[root].Host = host
	next[host].Root = root
	return next, root, api.OK
}

func attachFault(t api.Tree, host int) api.Errno {
	switch {
	case !isNode(t, host):
		return api.ErrNode
	case t[host].Kind != api.Element:
		return api.ErrKind
	case t[host].Root != none:
		return api.ErrShadow
	case len(t) == api.MaxNodes:
		return api.ErrFull
	}
	return api.OK
}

// Place is where a child is to go.
type Place struct {
	Parent int
	Child  int
	Before int
}

// Insert moves a child with all that is below it.
func Insert(t api.Tree, p Place) (api.Tree, api.Errno) {
	if !mayBe(t) {
		return nil, api.ErrArg
	}
	if e := insertFault(t, p); e != api.OK {
		return t, e
	}
	next := Copy(t)
	// Taken out, the child could not tell any more where it was.
	if p.Before != p.Child {
		takeOut(next, p.Child)
		layIn(next, p)
	}
	return next, api.OK
}

func insertFault(t api.Tree, p Place) api.Errno {
	switch {
	case !isNode(t, p.Parent), !isNode(t, p.Child), p.Before != none && !isNode(t, p.Before):
		return api.ErrNode
	case t[p.Parent].Kind == api.Text, !canBeKid(t[p.Child].Kind):
		return api.ErrKind
	case p.Child == p.Parent, isAncestor(t, p.Child, p.Parent):
		return api.ErrLoop
	case p.Before != none && t[p.Before].Parent != p.Parent:
		return api.ErrNode
	}
	return api.OK
}

// Remove leaves the child in the tree, without a place.
func Remove(t api.Tree, child int) (api.Tree, api.Errno) {
	if !mayBe(t) {
		return nil, api.ErrArg
	}
	if !isNode(t, child) {
		return t, api.ErrNode
	}
	if t[child].Parent == none {
		return t, api.ErrKind
	}
	next := Copy(t)
	takeOut(next, child)
	return next, api.OK
}

// Copy gives each node's lists memory of their own, so that a change of the copy is seen nowhere else.
func Copy(t api.Tree) api.Tree {
	c := slices.Clone(t)
	for n := range c {
		c[n].Kids = slices.Clone(c[n].Kids)
		c[n].Attrs = slices.Clone(c[n].Attrs)
	}
	return c
}

func lone(kind int, tag int) api.Node {
	return api.Node{Kind: kind, Tag: tag, Parent: none, Host: none, Root: none}
}

// takeOut changes t: it is for copies alone. A child without a Parent stays as it is.
func takeOut(t api.Tree, child int) {
	parent := t[child].Parent
	if parent == none {
		return
	}
	at := slices.Index(t[parent].Kids, child)
	t[parent].Kids = slices.Delete(t[parent].Kids, at, at+1)
	t[child].Parent = none
}

// layIn changes t: it is for copies alone, in which the child has no Parent.
func layIn(t api.Tree, p Place) {
	kids := t[p.Parent].Kids
	at := len(kids)
	if p.Before != none {
		at = slices.Index(kids, p.Before)
	}
	t[p.Parent].Kids = slices.Insert(kids, at, p.Child)
	t[p.Child].Parent = p.Parent
}
