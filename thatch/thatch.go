// Package thatch keeps trees of elements and texts. See DOC.md.
package thatch

import (
	"slices"
	"strings"

	"thatch/api"
	"thatch/markup"
	"thatch/tree"
)

// Clean repairs a text (P3).
func Clean(s string) string { return markup.Clean(s) }

// Tokens cuts markup into tokens (P4).
func Tokens(s string) []api.Token { return markup.Tokens(s) }

// Doc keeps nodes.
type Doc struct {
	nodes tree.Nodes
}

// New makes a document (P5).
func New() *Doc { return &Doc{} }

// has tells whether there is a node of that number; a nil document has none.
func (d *Doc) has(h int) bool {
	return d != nil && d.nodes.Has(h)
}

// isName tells whether an element may be made with that name.
func isName(name string) bool {
	for _, letter := range name {
		if letter < 'a' || letter > 'z' {
			return false
		}
	}
	return 1 <= len(name) && len(name) <= api.MaxName
}

// Create makes an element (P6).
func (d *Doc) Create(name string) (int, api.Errno) {
	switch {
	case d == nil:
		return 0, api.ErrNode
	case !isName(name):
		return 0, api.ErrName
	case !d.nodes.HasRoom(1):
		return 0, api.ErrFull
	}
	return d.nodes.Add(api.Node{Kind: api.Element, Name: strings.Clone(name)}), api.OK
}

// Text makes a text (P6).
func (d *Doc) Text(data string) (int, api.Errno) { return d.addData(api.Text, data) }

// Comment makes a comment (P6).
func (d *Doc) Comment(data string) (int, api.Errno) { return d.addData(api.Comment, data) }

// addData makes a text or a comment.
func (d *Doc) addData(kind api.Kind, data string) (int, api.Errno) {
	switch {
	case d == nil:
		return 0, api.ErrNode
	case len(data) > api.MaxText:
		return 0, api.ErrLong
	case !d.nodes.HasRoom(1):
		return 0, api.ErrFull
	}
	return d.nodes.Add(api.Node{Kind: kind, Data: markup.Clean(data)}), api.OK
}

// Node tells a node (P7).
func (d *Doc) Node(h int) (api.Node, api.Errno) {
	if !d.has(h) {
		return api.Node{}, api.ErrNode
	}
	return d.nodes.Node(h), api.OK
}

// Kids tells a node's children (P7).
func (d *Doc) Kids(h int) ([]int, api.Errno) {
	if !d.has(h) {
		return nil, api.ErrNode
	}
	return d.nodes.Kids(h), api.OK
}

// Attrs tells an element's attributes (P7).
func (d *Doc) Attrs(h int) ([]api.Attr, api.Errno) {
	switch {
	case !d.has(h):
		return nil, api.ErrNode
	case !d.nodes.IsElement(h):
		return nil, api.ErrKind
	}
	return d.nodes.Attrs(h), api.OK
}

// Insert makes a node a child of another one (P8).
func (d *Doc) Insert(parent int, child int, before int) api.Errno {
	switch {
	case !d.has(parent), !d.has(child):
		return api.ErrNode
	case !d.nodes.MayHold(parent):
		return api.ErrKind
	case d.nodes.IsWithin(parent, child):
		return api.ErrLoop
	case before != 0 && !d.nodes.HasKid(parent, before):
		return api.ErrChild
	}
	d.nodes.Insert(parent, child, before)
	return api.OK
}

// Remove takes a node out (P8).
func (d *Doc) Remove(h int) api.Errno {
	if !d.has(h) {
		return api.ErrNode
	}
	d.nodes.Remove(h)
	return api.OK
}

// SetAttr sets an attribute (P9).
func (d *Doc) SetAttr(h int, name string, value string) api.Errno {
	switch {
	case !d.has(h):
		return api.ErrNode
	case !d.nodes.IsElement(h):
		return api.ErrKind
	case !markup.IsAttrName(name):
		return api.ErrName
	case len(name) > api.MaxText, len(value) > api.MaxText:
		return api.ErrLong
	}
	d.nodes.SetAttr(h, strings.Clone(name), markup.Clean(value))
	return api.OK
}

// Inner writes what a node holds (P10).
func (d *Doc) Inner(h int) (string, api.Errno) {
	if !d.has(h) {
		return "", api.ErrNode
	}
	return d.nodes.Inner(h), api.OK
}

// Inners writes what several nodes hold (P10).
func (d *Doc) Inners(l ...int) ([]string, api.Errno) {
	isMissing := func(h int) bool { return !d.has(h) }
	if d == nil || slices.ContainsFunc(l, isMissing) {
		return nil, api.ErrNode
	}
	return d.nodes.Inners(l), api.OK
}

// SetInner makes an element hold what markup says (P11).
func (d *Doc) SetInner(h int, markup string) api.Errno {
	switch {
	case !d.has(h):
		return api.ErrNode
	case !d.nodes.MayHold(h):
		return api.ErrKind
	case len(markup) > api.MaxText:
		return api.ErrLong
	case !d.nodes.SetInner(h, markup):
		return api.ErrFull
	}
	return api.OK
}
