package thatch

import (
	"slices"
	"strings"
	"testing"

	"thatch/api"
)

func setAttr(t *testing.T, d *Doc, h int, name string, value string) {
	t.Helper()
	if e := d.SetAttr(h, name, value); e != api.OK {
		t.Fatalf("SetAttr(%d, %q, %q): %d", h, name, value, e)
	}
}

// checkAttrs holds an element's attributes against names and values in turn.
func checkAttrs(t *testing.T, d *Doc, h int, want ...string) {
	t.Helper()
	l, e := d.Attrs(h)
	var got []string
	for _, a := range l {
		got = append(got, a.Name, a.Value)
	}
	if e != api.OK || !slices.Equal(got, want) {
		t.Errorf("Attrs(%d): %q, %d, want %q", h, got, e, want)
	}
}

// checkNoAttr makes a SetAttr that must be refused without a change.
func checkNoAttr(t *testing.T, d *Doc, h int, name string, value string, want api.Errno) {
	t.Helper()
	was := dump(d)
	if e := d.SetAttr(h, name, value); e != want {
		t.Errorf("SetAttr(%d, %.20q, %.20q): %d, want %d", h, name, value, e, want)
	}
	if got := dump(d); got != was {
		t.Errorf("a refused SetAttr(%d, %.20q, %.20q) has changed the document:\n%swas\n%s", h, name, value, got, was)
	}
}

func TestP9Places(t *testing.T) {
	d := docWith(t, "x", "br")
	for h := 1; h <= 2; h++ {
		setAttr(t, d, h, "a", "1")
		setAttr(t, d, h, "c", "2")
		setAttr(t, d, h, "b", "3")
		checkAttrs(t, d, h, "a", "1", "c", "2", "b", "3")
		setAttr(t, d, h, "c", "4")
		setAttr(t, d, h, "a", "")
		checkAttrs(t, d, h, "a", "", "c", "4", "b", "3")
		setAttr(t, d, h, "b", "5")
		setAttr(t, d, h, "ab", "6")
		checkAttrs(t, d, h, "a", "", "c", "4", "b", "5", "ab", "6")
	}
}

func TestP9AttributesThatWereRead(t *testing.T) {
	d := docOf(t, "div", "<p B=1 =c=2 d>")
	setAttr(t, d, 2, "d", "3")
	setAttr(t, d, 2, "=c", "4")
	setAttr(t, d, 2, "e", "5")
	checkAttrs(t, d, 2, "b", "1", "=c", "4", "d", "3", "e", "5")
	if got, want := inner(t, d, 1), "<p b=\"1\" =c=\"4\" d=\"3\" e=\"5\"></p>"; got != want {
		t.Errorf("Inner: %q, want %q", got, want)
	}
}

// TestP9RaisedMarks: marks that came of one beginning have attributes of their own.
func TestP9RaisedMarks(t *testing.T) {
	d := docOf(t, "div", "<p><b a=1 c=2>x<p>y<p>z")
	setAttr(t, d, 6, "a", "3")
	setAttr(t, d, 6, "e", "4")
	setAttr(t, d, 9, "f", "5")
	checkAttrs(t, d, 3, "a", "1", "c", "2")
	checkAttrs(t, d, 6, "a", "3", "c", "2", "e", "4")
	checkAttrs(t, d, 9, "a", "1", "c", "2", "f", "5")
	setAttr(t, d, 3, "g", "6")
	checkAttrs(t, d, 6, "a", "3", "c", "2", "e", "4")
	checkAttrs(t, d, 9, "a", "1", "c", "2", "f", "5")
}

func TestP9Values(t *testing.T) {
	for _, c := range []struct{ value, want string }{
		{"", ""},
		{"x", "x"},
		{"a b\tc\nd", "a b\tc\nd"},
		{"A=\"'<>/&lt;\u00a0", "A=\"'<>/&lt;\u00a0"},
		{"\r\n\r", "\n\n"},
		{"\x00\xff\xe2\x82", "\ufffd\ufffd\ufffd\ufffd"},
		{strings.Repeat("x", api.MaxText), strings.Repeat("x", api.MaxText)},
		{strings.Repeat("\r\n", api.MaxText/2), strings.Repeat("\n", api.MaxText/2)},
		{strings.Repeat("\xff", api.MaxText), strings.Repeat("\ufffd", api.MaxText)},
	} {
		d := docWith(t, "x")
		setAttr(t, d, 1, "a", c.value)
		checkAttrs(t, d, 1, "a", c.want)
		setAttr(t, d, 1, "b", "1")
		setAttr(t, d, 1, "b", c.value)
		checkAttrs(t, d, 1, "a", c.want, "b", c.want)
	}
}

func TestP9Names(t *testing.T) {
	for _, name := range []string{"a", "abc", "=", "=a", "\"", "'", "<", "&", "&amp;", "a<b", "\"'", "\u00e9", "\u00c9", "\ufffd", "a\ufffd", "\u00a0", "\x0b\x0c", "1", "-", "\\", "[", "@", "`", "\u212a", strings.Repeat("n", api.MaxText), strings.Repeat("\u00e9", api.MaxText/2)} {
		d := docWith(t, "div", "x")
		insert(t, d, 1, 2, 0)
		setAttr(t, d, 2, name, "v")
		checkAttrs(t, d, 2, name, "v")
		again := Tokens(inner(t, d, 1))
		if len(again) != 2 || !slices.Equal(again[0].Attrs, []api.Attr{{Name: name, Value: "v"}}) {
			t.Errorf("%q, written and read again: %#v", name, again)
		}
	}
}

var badAttrNames = []string{"", "A", "Z", "aB", "Ba", " ", "\t", "\n", "a b", "a\tb", "a\n", " a", "/", "a/", "/a", ">", "a>", ">a", "a=", "a=b", "==", "=a=", "=a b", "=A", "=/", "\xff", "a\xff", "\x00", "a\x00b", "\r", "a\r", "a\r\n", "\xe2\x82", strings.Repeat("n", api.MaxText) + "N", "=" + strings.Repeat("n", 1<<16) + "="}

func TestP9Refused(t *testing.T) {
	d := docOf(t, "div", "<p a=1>x<!--y-->")
	tooLong := strings.Repeat("n", api.MaxText+1)
	for _, value := range []string{"", "v", tooLong} {
		for _, name := range badAttrNames {
			checkNoAttr(t, d, 2, name, value, api.ErrName)
			checkNoAttr(t, d, 3, name, value, api.ErrKind)
			checkNoAttr(t, d, 4, name, value, api.ErrKind)
			checkNoAttr(t, d, 5, name, value, api.ErrNode)
		}
		checkNoAttr(t, d, 2, tooLong, value, api.ErrLong)
		checkNoAttr(t, d, 3, "a", value, api.ErrKind)
		for _, h := range noNumbers {
			checkNoAttr(t, d, h, "a", value, api.ErrNode)
		}
	}
	for _, value := range []string{tooLong, strings.Repeat("\r\n", api.MaxText/2) + "\r", strings.Repeat("v", 1<<20)} {
		checkNoAttr(t, d, 2, "a", value, api.ErrLong)
		checkNoAttr(t, d, 2, "b", value, api.ErrLong)
	}
	checkAttrs(t, d, 2, "a", "1")
}

// TestP9EachPairOfBytes holds the rule for names against a second telling of it.
func TestP9EachPairOfBytes(t *testing.T) {
	d := docWith(t, "x")
	for first := range 256 {
		for second := range 256 {
			name := string([]byte{byte(first), byte(second)})
			want := api.OK
			if strings.ContainsAny(name, " \t\n/>ABCDEFGHIJKLMNOPQRSTUVWXYZ") || Clean(name) != name || second == '=' {
				want = api.ErrName
			}
			if e := d.SetAttr(1, name, ""); e != want {
				t.Errorf("SetAttr of %q: %d, want %d", name, e, want)
			}
		}
	}
}

func TestP9Many(t *testing.T) {
	d := docWith(t, "x")
	var want []string
	for i := range 600 {
		name := "n" + strings.Repeat("x", i%30) + strings.Repeat("y", i/30)
		setAttr(t, d, 1, name, "v")
		want = append(want, name, "v")
	}
	checkAttrs(t, d, 1, want...)
}

// slot is where a value or a text is written: an element of a name, which may stand in an element of another.
type slot struct{ outer, name string }

var textSlots = []slot{{"div", "p"}, {"div", "ul"}, {"ul", "li"}, {"p", "div"}, {"tr", "td"}, {"div", "b"}, {"b", "i"}, {"td", "u"}, {"li", "x"}, {"x", "x"}}

var valueSlots = append([]slot{{"div", "table"}, {"table", "tr"}, {"div", "br"}, {"x", "hr"}, {"tr", "img"}, {"div", "code"}}, textSlots...)

// readAgain writes what node 1 of a document holds, and reads it in an element of the same name; false, if it is too long.
func readAgain(t *testing.T, d *Doc) (*Doc, bool) {
	t.Helper()
	top, _ := d.Node(1)
	written := inner(t, d, 1)
	again := docWith(t, top.Name)
	if len(written) > api.MaxText {
		checkRefused(t, again, 1, written, api.ErrLong)
		return nil, false
	}
	setInner(t, again, 1, written)
	return again, true
}

// checkValue gives an attribute a value, and looks for it when it is read again.
func checkValue(t *testing.T, s slot, value string) {
	t.Helper()
	d := docWith(t, s.outer, s.name)
	insert(t, d, 1, 2, 0)
	setAttr(t, d, 2, "a", "1")
	setAttr(t, d, 2, "v", value)
	setAttr(t, d, 2, "z", "2")
	again, ok := readAgain(t, d)
	if !ok {
		return
	}
	checkNode(t, again, 2, api.Node{Kind: api.Element, Parent: 1, Name: s.name})
	checkAttrs(t, again, 2, "a", "1", "v", Clean(value), "z", "2")
	checkNoNode(t, again, 3)
}

// checkText makes data the only text in an element, and looks for it when it is read again.
func checkText(t *testing.T, s slot, data string) {
	t.Helper()
	d := docWith(t, s.outer, s.name)
	text, e := d.Text(data)
	if e != api.OK {
		t.Fatalf("Text(%q): %d", data, e)
	}
	insert(t, d, 1, 2, 0)
	insert(t, d, 2, text, 0)
	again, ok := readAgain(t, d)
	if !ok {
		return
	}
	checkKids(t, again, 1, 2)
	checkAttrs(t, again, 2)
	if data == "" {
		checkNoNode(t, again, 3)
		return
	}
	checkNode(t, again, 3, api.Node{Kind: api.Text, Parent: 2, Data: Clean(data)})
	checkNoNode(t, again, 4)
}

var nasty = []string{
	"", "x", "\"", "'", "`", "\">", "'>", "/>", ">", "<", "<b>", "</b>", "</p>", "</td></tr></table>", "<table>", "<tr>", "<td>", "<li>", "<p>", "<br>", "<code>", "</code>", "<x a=1>",
	"<!--", "-->", "<!-- a -->", "--!>", "<!", "<?", "<![CDATA[", "]]>", "a=b", " a=\"b\" ", "=", "\" a=\"b", "\\", "\\\"", "${x}", "%00", "\u00a0", "\u2028", "\ufeff", "\u00e9", "\U0001f600",
	"&", "&amp", "&amp;", "&amp;amp;", "&lt;", "&lt;b&gt;", "&gt;", "&quot;", "&#34;", "&#x22;", "&#X3c;", "&#60;b&#62;", "&#0;", "&#13;", "&nbsp;", "&apos;", "&copy;", "&&", "&;", "&#", "&#;", "&#x;",
	" ", "  ", "\t", "\n", "\n\n", "\r", "\r\n", "\n\r", "\x00", "\x01", "\x0b", "\x7f", "\xff", "\xc0\xbc", "\xe2\x82", "\xed\xa0\x80",
}

func TestP13Values(t *testing.T) {
	for _, s := range valueSlots {
		for _, first := range nasty {
			checkValue(t, s, first)
			for _, second := range nasty {
				checkValue(t, s, first+second)
			}
		}
	}
}

func TestP13Texts(t *testing.T) {
	for _, s := range textSlots {
		for _, first := range nasty {
			checkText(t, s, first)
			for _, second := range nasty {
				checkText(t, s, first+second)
			}
		}
	}
}

func TestP13EachByte(t *testing.T) {
	for b := range 256 {
		for _, s := range []string{string([]byte{byte(b)}), "a" + string([]byte{byte(b)}) + "b", string([]byte{'&', byte(b)}), string([]byte{'<', byte(b), '>'})} {
			checkValue(t, slot{"div", "p"}, s)
			checkText(t, slot{"div", "p"}, s)
		}
	}
}

// TestP13Long: what is longer when it is written is read again as far as SetInner takes it.
func TestP13Long(t *testing.T) {
	for _, part := range []string{"x", "&", "<", "\u00a0", "\xff", "\r\n"} {
		for size := range api.MaxText/len(part) + 1 {
			checkValue(t, slot{"div", "p"}, strings.Repeat(part, size))
			checkText(t, slot{"div", "p"}, strings.Repeat(part, size))
		}
	}
}

// TestP13Code: in a code a text stands as it is, so that markup may come of it.
func TestP13Code(t *testing.T) {
	d := docWith(t, "div", "code")
	text, _ := d.Text("&lt;</code><b>")
	insert(t, d, 1, 2, 0)
	insert(t, d, 2, text, 0)
	if got, want := inner(t, d, 1), "<code>&lt;</code><b></code>"; got != want {
		t.Errorf("Inner: %q, want %q", got, want)
	}
	again, _ := readAgain(t, d)
	checkNode(t, again, 3, api.Node{Kind: api.Text, Parent: 2, Data: "&lt;"})
	checkNode(t, again, 4, api.Node{Kind: api.Element, Parent: 1, Name: "b"})
	checkValue(t, slot{"div", "code"}, "&lt;</code><b>")
}

func FuzzSlots(f *testing.F) {
	for _, s := range nasty {
		f.Add(s)
	}
	f.Fuzz(func(t *testing.T, s string) {
		if len(s) > api.MaxText {
			return
		}
		for _, at := range valueSlots {
			checkValue(t, at, s)
		}
		for _, at := range textSlots {
			checkText(t, at, s)
		}
	})
}
