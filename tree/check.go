package tree

import "limelight/api"

// mayBe asks for loops last: one can go up only where all numbers are known to be nodes.
func mayBe(t api.Tree) bool {
	if len(t) < 1 || len(t) > api.MaxNodes {
		return false
	}
	for n := range t {
		if !kindFits(t, n) || !hostFits(t, n) || !rootFits(t, n) || !attrsFit(t[n]) {
			return false
		}
	}
	return kidsFit(t) && !hasLoop(t)
}

func isNode(t api.Tree, n int) bool {
	return n >= 0 && n < len(t)
}

func kindFits(t api.Tree, n int) bool {
	kind := t[n].Kind
	if n == 0 {
		return kind == api.Document && tagFits(kind, t[n].Tag)
	}
	return (canBeKid(kind) || kind == api.Shadow) && tagFits(kind, t[n].Tag)
}

func canBeKid(kind int) bool {
	return kind == api.Element || kind == api.Text
}

func tagFits(kind int, tag int) bool {
	if kind == api.Element {
		return tag >= api.Box && tag <= api.Link
	}
	return tag == 0
}

func hostFits(t api.Tree, n int) bool {
	host := t[n].Host
	if t[n].Kind != api.Shadow {
		return host == none
	}
	return isNode(t, host) && t[host].Kind == api.Element && t[host].Root == n
}

func rootFits(t api.Tree, n int) bool {
	root := t[n].Root
	if t[n].Kind != api.Element || root == none {
		return root == none
	}
	return isNode(t, root) && t[root].Kind == api.Shadow && t[root].Host == n
}

// kidsFit need not look for a kid of two: such a one has one Parent, so the other one's Kids are wrong already.
func kidsFit(t api.Tree) bool {
	var placed [api.MaxNodes]bool
	for parent, x := range t {
		if x.Kind == api.Text && len(x.Kids) > 0 {
			return false
		}
		for _, kid := range x.Kids {
			if !isNode(t, kid) || !canBeKid(t[kid].Kind) || t[kid].Parent != parent || placed[kid] {
				return false
			}
			placed[kid] = true
		}
	}
	for n := range t {
		if !placed[n] && t[n].Parent != none {
			return false
		}
	}
	return true
}

func attrsFit(x api.Node) bool {
	last := -1
	for _, a := range x.Attrs {
		if a.Name <= last || !attrFits(x.Kind, a) {
			return false
		}
		last = a.Name
	}
	return true
}

func attrFits(kind int, a api.Attr) bool {
	if a.Name < 0 || a.Name >= api.Attrs || kind != attrKind(a.Name) {
		return false
	}
	low, high := attrValues(a.Name)
	return a.Value >= low && a.Value <= high
}

func attrKind(name int) int {
	if name == api.Delegates || name == api.Manual {
		return api.Shadow
	}
	return api.Element
}

func attrValues(name int) (low int, high int) {
	switch name {
	case api.TabIndex:
		return -api.MaxValue, api.MaxValue - 1
	case api.Name:
		return 0, api.MaxValue - 1
	case api.Popover:
		return api.Auto, api.Hand
	case api.SlotAt:
		return 0, api.MaxNodes - 1
	}
	return 0, 0
}
