package tree

import (
	"thatch/api"
	"thatch/markup"
)

// While a tree is built its nodes go by their places in builder.nodes. The holder is the first; as it never is in the list of marks, its place stands for a fence there.
const (
	holder = 0
	fence  = 0
)

// builder is what the rules for trees keep while they go through markup.
type builder struct {
	nodes []node // the holder, then the new nodes in the order in which they are made
	open  []int  // the row of open elements
	marks []int  // the list of marks, and the fences
}

// build makes a holder of a name, and behind it the nodes that it holds by text. They are apart from all documents, so that they can be dropped if there are too many.
func build(name string, text string) []node {
	b := builder{nodes: []node{{Node: api.Node{Kind: api.Element, Name: name}}}}
	for _, t := range tokensWithin(name, text) {
		b.take(t)
	}
	return b.nodes
}

// tokensWithin cuts the markup that an element of a name is to hold.
func tokensWithin(name string, text string) []api.Token {
	if name != markup.RawName {
		return markup.Tokens(text)
	}
	if text == "" {
		return nil
	}
	return []api.Token{{Kind: api.Text, Data: markup.Clean(text)}}
}

func (b *builder) take(t api.Token) {
	switch t.Kind {
	case api.Text:
		b.raiseMarks()
		b.putText(t.Data)
	case api.Comment:
		b.put(node{Node: api.Node{Kind: api.Comment, Data: t.Data}})
	case api.Element:
		b.begin(t)
	case api.End:
		b.end(t.Name)
	}
}

// begin follows the beginning of an element.
func (b *builder) begin(t api.Token) {
	switch {
	case t.Name == "tr":
		b.beginRow(t)
	case t.Name == "td":
		b.beginCell(t)
	case isBlock(t.Name):
		b.beginBlock(t)
	default:
		b.beginOther(t)
	}
}

func (b *builder) beginRow(t api.Token) {
	table := b.lastOpen("table")
	if b.openName(table) != "table" {
		return
	}
	b.closeFrom(table + 1)
	b.putOpen(t.Name, t.Attrs)
}

func (b *builder) beginCell(t api.Token) {
	row := b.lastOpen("table", "tr")
	if b.openName(row) != "tr" {
		return
	}
	b.closeFrom(row + 1)
	b.putOpen(t.Name, t.Attrs)
	b.marks = append(b.marks, fence)
}

func (b *builder) beginBlock(t api.Token) {
	if t.Name == "li" {
		b.closeLast("li", "ul", "td")
	}
	b.closeLast("p", "td", "table")
	if t.Name == "table" && isGrid(b.nodes[b.current()].Name) {
		b.closeLast("table")
	}
	b.putOpen(t.Name, t.Attrs)
}

func (b *builder) beginOther(t api.Token) {
	b.raiseMarks()
	if isVoid(t.Name) {
		b.putElement(t.Name, t.Attrs)
		return
	}
	made := b.putOpen(t.Name, t.Attrs)
	if isMark(t.Name) {
		b.marks = append(b.marks, made)
	}
}

// end follows the end of an element.
func (b *builder) end(name string) {
	switch {
	case isMark(name):
		b.endMark(name)
	case name == "table":
		b.closeLast(name)
	case name == "td", name == "tr":
		b.closeLast(name, "table")
	default:
		b.closeLast(name, "td", "table")
	}
}
