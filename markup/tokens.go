package markup

import "thatch/api"

// RawName is the element behind whose beginning all is text.
const RawName = "code"

// The bytes at which the parts of a tag end.
const (
	blanks    = " \t\n"
	gaps      = blanks + "/"
	nameEnds  = gaps + ">"
	attrEnds  = nameEnds + "="
	valueEnds = blanks + ">"
)

// Tokens cuts markup into its tokens. The labels are the states of the machine; each reads on from where the last one stopped.
func Tokens(s string) []api.Token {
	c := cutter{text: Clean(s), lastTag: map[string]int{}}

content:
	c.addText(resolve(c.cut(c.textEnd(beginsMarkup))))
	switch {
	case c.starts("<!--"):
		goto comment
	case c.starts("<!"), c.starts("<?"):
		goto remark
	case c.starts("</"):
		goto ending
	case c.starts("<"):
		goto beginning
	}
	return c.out

comment:
	c.at += len("<!--")
	c.addComment("-->")
	goto content

remark:
	c.at += len("<!")
	c.addComment(">")
	goto content

ending:
	c.at += len("</")
	c.cutTag(api.End)
	goto content

beginning:
	c.at += len("<")
	c.cutTag(api.Element)
	if c.tag.Name == RawName {
		goto raw
	}
	goto content

raw:
	c.addText(c.cut(c.textEnd(endsRaw)))
	goto content
}

// cutTag goes on behind what begins a tag. It is a machine of its own; without a > it stops at the end of the markup, and there is no token.
func (c *cutter) cutTag(kind api.Kind) {
	c.startTag(kind)
	c.tag.Name = lower(c.cut(c.upTo(c.at, nameEnds)))

gap:
	c.passOver(gaps)
	switch c.next() {
	case 0:
		return
	case '>':
		goto closed
	}
	// The first byte belongs to the attribute's name, whatever it is.
	c.attr = api.Attr{Name: lower(c.cut(c.upTo(c.at+1, attrEnds)))}
	c.passOver(blanks)
	if c.next() == '=' {
		goto value
	}
	goto attribute

value:
	c.at++
	c.passOver(blanks)
	switch c.next() {
	case '"', '\'':
		goto quoted
	}
	c.attr.Value = resolve(c.cut(c.upTo(c.at, valueEnds)))
	goto attribute

quoted:
	c.attr.Value = resolve(c.cutQuoted())
	goto attribute

attribute:
	c.addAttr()
	goto gap

closed:
	c.at++
	c.out = append(c.out, c.tag)
}
