// Package tree keeps nodes by their numbers, makes trees of what markup says, and writes them as markup.
package tree

import (
	"slices"

	"thatch/api"
)

// node is a node with what it holds. What an element does not have is empty.
type node struct {
	api.Node
	attrs []api.Attr
	kids  []int
}

// Nodes keeps the nodes of a document; their numbers begin at 1. Without any it is ready for use.
type Nodes struct {
	list []node
}

// at gives the node of a number, which must be there, to be read or changed before the next one is added.
func (t *Nodes) at(h int) *node {
	return &t.list[h-1]
}

// Has tells whether there is a node of that number.
func (t *Nodes) Has(h int) bool {
	return 1 <= h && h <= len(t.list)
}

// HasRoom tells whether so many new nodes may be added.
func (t *Nodes) HasRoom(more int) bool {
	return len(t.list)+more <= api.MaxNodes
}

// Add adds a node without children, and tells its number.
func (t *Nodes) Add(n api.Node) int {
	t.list = append(t.list, node{Node: n})
	return len(t.list)
}

// Node tells a node that is there.
func (t *Nodes) Node(h int) api.Node {
	return t.at(h).Node
}

// Kids tells the children of a node that is there.
func (t *Nodes) Kids(h int) []int {
	return append([]int(nil), t.at(h).kids...)
}

// Attrs tells the attributes of a node that is there.
func (t *Nodes) Attrs(h int) []api.Attr {
	return append([]api.Attr(nil), t.at(h).attrs...)
}

// SetAttr gives an attribute of an element that is there a value; a new one is the last.
func (t *Nodes) SetAttr(h int, name string, value string) {
	n := t.at(h)
	at := slices.IndexFunc(n.attrs, func(a api.Attr) bool { return a.Name == name })
	if at < 0 {
		n.attrs = append(n.attrs, api.Attr{Name: name, Value: value})
		return
	}
	n.attrs[at].Value = value
}

// IsElement tells whether a node that is there is an element.
func (t *Nodes) IsElement(h int) bool {
	return t.at(h).Kind == api.Element
}

// MayHold tells whether a node that is there may have children.
func (t *Nodes) MayHold(h int) bool {
	return t.IsElement(h) && !isVoid(t.at(h).Name)
}

// SetInner makes an element that may hold children hold what text says as markup. If there is no room for the new nodes, it tells false, and nothing has changed.
func (t *Nodes) SetInner(h int, text string) bool {
	made := build(t.Node(h).Name, text)
	if !t.HasRoom(len(made) - 1) {
		return false
	}
	for _, k := range t.at(h).kids {
		t.at(k).Parent = 0
	}
	t.graft(h, made)
	return true
}

// graft adds the nodes that were built for the element h, and makes h hold what the first of them holds, which stood for it.
func (t *Nodes) graft(h int, made []node) {
	last := len(t.list)
	number := func(place int) int {
		if place == holder {
			return h
		}
		return last + place
	}
	for i := range made {
		made[i].Parent = number(made[i].Parent)
		for k, place := range made[i].kids {
			made[i].kids[k] = number(place)
		}
	}
	t.at(h).kids = made[holder].kids
	t.list = append(t.list, made[holder+1:]...)
}
