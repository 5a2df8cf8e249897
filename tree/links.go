package tree

import "slices"

// HasKid tells whether h is the number of a child of a node that is there.
func (t *Nodes) HasKid(parent int, h int) bool {
	return slices.Contains(t.at(parent).kids, h)
}

// IsWithin tells whether a node that is there is the node top, or lies within it.
func (t *Nodes) IsWithin(h int, top int) bool {
	for h != top && h != 0 {
		h = t.at(h).Parent
	}
	return h == top
}

// Insert takes a node from where it is, and makes it a child of parent: right ahead of its child before, or the last one, if that is 0. The caller sees to it that parent may hold it, and does not lie within it.
func (t *Nodes) Insert(parent int, child int, before int) {
	if child == before {
		return
	}
	t.Remove(child)
	kids := t.at(parent).kids
	at := len(kids)
	if before != 0 {
		at = slices.Index(kids, before)
	}
	t.at(parent).kids = slices.Insert(kids, at, child)
	t.at(child).Parent = parent
}

// Remove makes a node that is there a child of none.
func (t *Nodes) Remove(h int) {
	n := t.at(h)
	if n.Parent == 0 {
		return
	}
	parent := t.at(n.Parent)
	at := slices.Index(parent.kids, h)
	parent.kids = slices.Delete(parent.kids, at, at+1)
	n.Parent = 0
}
