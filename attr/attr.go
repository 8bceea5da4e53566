// Package attr is layer 2, attributes: see shared/doc/02-attr.md.
package attr

import (
	"slices"

	"limelight/api"
	"limelight/tree"
)

// Get is false, too, where nobody could have an attribute: at no node, and in no tree.
func Get(t api.Tree, n int, name int) (int, bool) {
	if fault(t, n) != api.OK {
		return 0, false
	}
	at, is := search(t[n].Attrs, name)
	if !is {
		return 0, false
	}
	return t[n].Attrs[at].Value, true
}

// Has is for attributes whose value says nothing.
func Has(t api.Tree, n int, name int) bool {
	_, is := Get(t, n, name)
	return is
}

// Set leaves it to tree.Check what a node may have: a tree that may be is spoiled by the new attribute alone.
func Set(t api.Tree, n int, a api.Attr) (api.Tree, api.Errno) {
	if e := fault(t, n); e != api.OK {
		return refuse(t, e)
	}
	if t[n].Kind != api.Element && t[n].Kind != api.Shadow {
		return refuse(t, api.ErrKind)
	}
	next := tree.Copy(t)
	next[n].Attrs = put(next[n].Attrs, a)
	if tree.Check(next) != api.OK {
		return refuse(t, api.ErrAttr)
	}
	return next, api.OK
}

// Drop asks for no kind: who may have no attributes has none by that name.
func Drop(t api.Tree, n int, name int) (api.Tree, api.Errno) {
	if e := fault(t, n); e != api.OK {
		return refuse(t, e)
	}
	at, is := search(t[n].Attrs, name)
	if !is {
		return refuse(t, api.ErrAttr)
	}
	next := tree.Copy(t)
	next[n].Attrs = slices.Delete(next[n].Attrs, at, at+1)
	return next, api.OK
}

func fault(t api.Tree, n int) api.Errno {
	if e := tree.Check(t); e != api.OK {
		return e
	}
	if n < 0 || n >= len(t) {
		return api.ErrNode
	}
	return api.OK
}

// refuse gives t back, unless that may not be.
func refuse(t api.Tree, e api.Errno) (api.Tree, api.Errno) {
	if e == api.ErrArg {
		return nil, e
	}
	return t, e
}

// search tells where a name is in attributes whose names rise, or where it would go.
func search(l []api.Attr, name int) (int, bool) {
	for at, a := range l {
		if a.Name >= name {
			return at, a.Name == name
		}
	}
	return len(l), false
}

// put changes l: it is for copies alone.
func put(l []api.Attr, a api.Attr) []api.Attr {
	at, is := search(l, a.Name)
	if is {
		l[at] = a
		return l
	}
	return slices.Insert(l, at, a)
}
