package tree

import (
	"strings"

	"thatch/api"
	"thatch/markup"
)

// Inner writes what a node that is there holds.
func (t *Nodes) Inner(h int) string {
	n := t.at(h)
	if n.Kind != api.Element {
		return n.Data
	}
	var out strings.Builder
	t.writeKids(&out, n)
	return out.String()
}

func (t *Nodes) writeKids(out *strings.Builder, parent *node) {
	for _, h := range parent.kids {
		kid := t.at(h)
		switch kid.Kind {
		case api.Text:
			out.WriteString(textWithin(parent.Name, kid.Data))
		case api.Comment:
			out.WriteString("<!--" + kid.Data + "-->")
		case api.Element:
			t.writeElement(out, kid)
		}
	}
}

// textWithin writes a text as a child of an element of a name.
func textWithin(name string, data string) string {
	if name == markup.RawName {
		return data
	}
	return markup.EscapeText(data)
}

func (t *Nodes) writeElement(out *strings.Builder, n *node) {
	out.WriteString("<" + n.Name)
	for _, a := range n.attrs {
		out.WriteString(" " + a.Name + "=\"" + markup.EscapeValue(a.Value) + "\"")
	}
	out.WriteString(">")
	if isVoid(n.Name) {
		return
	}
	t.writeKids(out, n)
	out.WriteString("</" + n.Name + ">")
}
