// Package tree keeps nodes by their numbers, makes trees of what markup says, and writes them as markup.
package tree

import "thatch/api"

// node is a node with what it holds. What an element does not have is empty.
type node struct {
	api.Node
	attrs []api.Attr
	kids  []int
}

// Nodes keeps the nodes of a document; their numbers begin at 1. Without any it is ready for use.
type Nodes struct {
	list []node
}

// at gives the node of a number, which must be there, to be read or changed before the next one is added.
func (t *Nodes) at(h int) *node {
	return &t.list[h-1]
}

// Has tells whether there is a node of that number.
func (t *Nodes) Has(h int) bool {
	return 1 <= h && h <= len(t.list)
}

// HasRoom tells whether so many new nodes may be added.
func (t *Nodes) HasRoom(more int) bool {
	return len(t.list)+more <= api.MaxNodes
}

// Add adds a node without children, and tells its number.
func (t *Nodes) Add(n api.Node) int {
	t.list = append(t.list, node{Node: n})
	return len(t.list)
}

// Node tells a node that is there.
func (t *Nodes) Node(h int) api.Node {
	return t.at(h).Node
}

// Kids tells the children of a node that is there.
func (t *Nodes) Kids(h int) []int {
	return append([]int(nil), t.at(h).kids...)
}

// Attrs tells the attributes of a node that is there.
func (t *Nodes) Attrs(h int) []api.Attr {
	return append([]api.Attr(nil), t.at(h).attrs...)
}

// MayHold tells whether a node that is there may have children.
func (t *Nodes) MayHold(h int) bool {
	n := t.at(h)
	return n.Kind == api.Element && !isVoid(n.Name)
}

// SetInner makes an element that may hold children hold what text says as markup. If there is no room for the new nodes, it tells false, and nothing has changed.
func (t *Nodes) SetInner(h int, text string) bool {
	made := build(t.Node(h).Name, text)
	if !t.HasRoom(len(made) - 1) {
		return false
	}
	for _, k := range t.at(h).kids {
		t.at(k).Parent = 0
	}
	t.graft(h, made)
	return true
}

// graft adds the nodes that were built for the element h, and makes h hold what the first of them holds, which stood for it.
func (t *Nodes) graft(h int, made []node) {
	last := len(t.list)
	number := func(place int) int {
		if place == holder {
			return h
		}
		return last + place
	}
	for i := range made {
		made[i].Parent = number(made[i].Parent)
		for k, place := range made[i].kids {
			made[i].kids[k] = number(place)
		}
	}
	t.at(h).kids = made[holder].kids
	t.list = append(t.list, made[holder+1:]...)
}
