package markup

import (
	"strings"

	"thatch/api"
)

// cutter is what the machine of Tokens keeps while it reads.
type cutter struct {
	text    string // cleaned, so that no byte of it is 0
	at      int    // how far it has been read
	out     []api.Token
	tag     api.Token      // the tag that is being read
	attr    api.Attr       // the attribute of it that is being read
	tags    int            // how many tags have begun
	lastTag map[string]int // for each attribute's name the last tag that had it, by tags
}

// next tells the byte that is to be read; 0 at the end.
func (c *cutter) next() byte {
	if c.at == len(c.text) {
		return 0
	}
	return c.text[c.at]
}

func (c *cutter) starts(with string) bool {
	return strings.HasPrefix(c.text[c.at:], with)
}

// cut reads on to the place to, and tells what stood there.
func (c *cutter) cut(to int) string {
	part := c.text[c.at:to]
	c.at = to
	return part
}

// passOver reads on as long as there are bytes of these.
func (c *cutter) passOver(these string) {
	for c.at < len(c.text) && strings.IndexByte(these, c.text[c.at]) >= 0 {
		c.at++
	}
}

// upTo tells the first place from from on with one of the bytes ends, or the end.
func (c *cutter) upTo(from int, ends string) int {
	for from < len(c.text) && strings.IndexByte(ends, c.text[from]) < 0 {
		from++
	}
	return from
}

// textEnd tells the first place with a < behind which is what ends the text, or the end.
func (c *cutter) textEnd(ends func(behind string) bool) int {
	at := c.upTo(c.at, "<")
	for at < len(c.text) && !ends(c.text[at+1:]) {
		at = c.upTo(at+1, "<")
	}
	return at
}

// beginsMarkup tells whether a < with s behind it is more than text.
func beginsMarkup(s string) bool {
	if s == "" {
		return false
	}
	switch s[0] {
	case '!', '?':
		return true
	case '/':
		return len(s) > 1 && isLetter(s[1])
	}
	return isLetter(s[0])
}

// endsRaw tells whether a < with s behind it is the end of a raw element. The name alone is none at the end of the markup.
func endsRaw(s string) bool {
	const name = "/" + RawName
	return len(s) > len(name) && lower(s[:len(name)]) == name && strings.IndexByte(nameEnds, s[len(name)]) >= 0
}

// addText adds a text, if there is any.
func (c *cutter) addText(data string) {
	if data != "" {
		c.out = append(c.out, api.Token{Kind: api.Text, Data: data})
	}
}

// addComment reads a comment up to its end, which is left out, or to the end of the markup, and adds it.
func (c *cutter) addComment(end string) {
	c.out = append(c.out, api.Token{Kind: api.Comment, Data: c.cutThrough(end)})
}

// cutThrough reads on to behind the first end, or to the end of the markup, and tells what stood ahead of it.
func (c *cutter) cutThrough(end string) string {
	part, rest, _ := strings.Cut(c.text[c.at:], end)
	c.at = len(c.text) - len(rest)
	return part
}

// cutQuoted reads a value between two quotes.
func (c *cutter) cutQuoted() string {
	quote := c.cut(c.at + 1)
	return c.cutThrough(quote)
}

// startTag forgets the tag before.
func (c *cutter) startTag(kind api.Kind) {
	c.tags++
	c.tag = api.Token{Kind: kind}
}

// addAttr adds the attribute that was read to the tag, if the tag may have it.
func (c *cutter) addAttr() {
	if c.tag.Kind == api.End || c.lastTag[c.attr.Name] == c.tags {
		return
	}
	c.lastTag[c.attr.Name] = c.tags
	c.tag.Attrs = append(c.tag.Attrs, c.attr)
}
