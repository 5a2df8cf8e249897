package markup

import (
	"reflect"
	"testing"

	"thatch/api"
)

func TestEscapeTable(t *testing.T) {
	for _, c := range []struct{ s, text, value string }{
		{"", "", ""},
		{"a b\n", "a b\n", "a b\n"},
		{"&<>\u00a0\"'", "&amp;&lt;&gt;&nbsp;\"'", "&amp;<>&nbsp;&quot;'"},
		{"&amp;&#65;", "&amp;amp;&amp;#65;", "&amp;amp;&amp;#65;"},
		{"\u00e9\ufffd\U0010ffff", "\u00e9\ufffd\U0010ffff", "\u00e9\ufffd\U0010ffff"},
		{"<!--</p>-->", "&lt;!--&lt;/p&gt;--&gt;", "<!--</p>-->"},
	} {
		if got := EscapeText(c.s); got != c.text {
			t.Errorf("EscapeText(%q): %q, want %q", c.s, got, c.text)
		}
		if got := EscapeValue(c.s); got != c.value {
			t.Errorf("EscapeValue(%q): %q, want %q", c.s, got, c.value)
		}
	}
}

func TestEscapedIsReadAgain(t *testing.T) {
	for first := range rune(256) {
		for second := range rune(256) {
			s := Clean(string([]rune{first, second}))
			got := Tokens("<a b=\"" + EscapeValue(s) + "\">" + EscapeText(s))
			want := []api.Token{{Kind: api.Element, Name: "a", Attrs: []api.Attr{{Name: "b", Value: s}}}, {Kind: api.Text, Data: s}}
			if !reflect.DeepEqual(got, want) {
				t.Fatalf("%q, escaped and read: %#v", s, got)
			}
		}
	}
}
