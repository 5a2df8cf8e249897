// Package thatch keeps trees of elements and texts. See DOC.md.
package thatch

import (
	"thatch/api"
	"thatch/markup"
)

// Clean repairs a text (P3).
func Clean(s string) string { return markup.Clean(s) }

// Tokens cuts markup into tokens (P4).
func Tokens(s string) []api.Token { return markup.Tokens(s) }

// Doc keeps nodes.
type Doc struct{}

// New makes a document (P5).
func New() *Doc { return nil }

// Create makes an element (P6).
func (d *Doc) Create(name string) (int, api.Errno) { return 0, api.OK }

// Text makes a text (P6).
func (d *Doc) Text(data string) (int, api.Errno) { return 0, api.OK }

// Comment makes a comment (P6).
func (d *Doc) Comment(data string) (int, api.Errno) { return 0, api.OK }

// Node tells a node (P7).
func (d *Doc) Node(h int) (api.Node, api.Errno) { return api.Node{}, api.OK }

// Kids tells a node's children (P7).
func (d *Doc) Kids(h int) ([]int, api.Errno) { return nil, api.OK }

// Attrs tells an element's attributes (P7).
func (d *Doc) Attrs(h int) ([]api.Attr, api.Errno) { return nil, api.OK }

// Insert makes a node a child of another one (P8).
func (d *Doc) Insert(parent int, child int, before int) api.Errno { return api.OK }

// Remove takes a node out (P8).
func (d *Doc) Remove(h int) api.Errno { return api.OK }

// SetAttr sets an attribute (P9).
func (d *Doc) SetAttr(h int, name string, value string) api.Errno { return api.OK }

// Inner writes what a node holds (P10).
func (d *Doc) Inner(h int) (string, api.Errno) { return "", api.OK }

// Inners writes what several nodes hold (P10).
func (d *Doc) Inners(l ...int) ([]string, api.Errno) { return nil, api.OK }

// SetInner makes an element hold what markup says (P11).
func (d *Doc) SetInner(h int, markup string) api.Errno { return api.OK }
