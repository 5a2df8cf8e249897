package tree

import (
	"slices"

	"thatch/api"
)

// place tells where a node is to be put: in which element, and behind how many of its children.
func (b *builder) place(n node) (parent int, at int) {
	parent = b.current()
	if name := b.nodes[parent].Name; isGrid(name) && !fitsGrid(n, name) {
		return b.placeOutside()
	}
	return parent, len(b.nodes[parent].kids)
}

// placeOutside tells where a node is to be put that may not stand in a table.
func (b *builder) placeOutside() (parent int, at int) {
	inRow := b.lastOpen("table")
	if inRow < 0 {
		return holder, len(b.nodes[holder].kids)
	}
	table := b.open[inRow]
	parent = b.nodes[table].Parent
	return parent, slices.Index(b.nodes[parent].kids, table)
}

// put makes a node where it is to be put.
func (b *builder) put(n node) int {
	parent, at := b.place(n)
	made := len(b.nodes)
	n.Parent = parent
	b.nodes = append(b.nodes, n)
	b.nodes[parent].kids = slices.Insert(b.nodes[parent].kids, at, made)
	return made
}

// putText puts a text in; what is right behind another text becomes part of that.
func (b *builder) putText(data string) {
	text := node{Node: api.Node{Kind: api.Text, Data: data}}
	parent, at := b.place(text)
	if at > 0 {
		ahead := &b.nodes[b.nodes[parent].kids[at-1]]
		if ahead.Kind == api.Text {
			ahead.Data += data
			return
		}
	}
	b.put(text)
}

func (b *builder) putElement(name string, attrs []api.Attr) int {
	return b.put(node{Node: api.Node{Kind: api.Element, Name: name}, attrs: attrs})
}

// putOpen puts in an element and opens it.
func (b *builder) putOpen(name string, attrs []api.Attr) int {
	made := b.putElement(name, attrs)
	b.open = append(b.open, made)
	return made
}
