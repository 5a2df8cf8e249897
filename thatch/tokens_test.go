package thatch

import (
	"reflect"
	"strconv"
	"strings"
	"testing"

	"thatch/api"
)

func text(data string) api.Token    { return api.Token{Kind: api.Text, Data: data} }
func comment(data string) api.Token { return api.Token{Kind: api.Comment, Data: data} }
func end(name string) api.Token     { return api.Token{Kind: api.End, Name: name} }

// element makes the beginning of an element; its attributes are names and values in turn.
func element(name string, attrs ...string) api.Token {
	out := api.Token{Kind: api.Element, Name: name}
	for i := 0; i < len(attrs); i += 2 {
		out.Attrs = append(out.Attrs, api.Attr{Name: attrs[i], Value: attrs[i+1]})
	}
	return out
}

type tokenCase struct {
	s    string
	want []api.Token
}

func tokens(s string, want ...api.Token) tokenCase { return tokenCase{s, want} }

func checkTokens(t *testing.T, cases []tokenCase) {
	t.Helper()
	for _, c := range cases {
		if got := Tokens(c.s); !reflect.DeepEqual(got, c.want) {
			t.Errorf("Tokens(%q): %#v, want %#v", c.s, got, c.want)
		}
	}
}

func TestP4MarkupIsCleanedFirst(t *testing.T) {
	checkTokens(t, []tokenCase{
		tokens("a\r\nb\rc\xff\x00", text("a\nb\nc\ufffd\ufffd")),
		tokens("<a\rb\r\nc>", element("a", "b", "", "c", "")),
		tokens("<a\x00 b\xff='\r\x00'>", element("a\ufffd", "b\ufffd", "\n\ufffd")),
		tokens("</a\x00>", end("a\ufffd")),
		tokens("<!--\x00\r\n-->", comment("\ufffd\n")),
		tokens("<code>\x00\r</code\r>", element("code"), text("\ufffd\n"), end("code")),
		tokens("<\x00a>", text("<\ufffda>")),
	})
}

func TestP4Texts(t *testing.T) {
	checkTokens(t, []tokenCase{
		tokens(""),
		tokens(" ", text(" ")),
		tokens("x>y\"'=/", text("x>y\"'=/")),
		tokens("x&lt;<B a=1 A=2 c='d\"'>y</b >", text("x<"), element("b", "a", "1", "c", "d\""), text("y"), end("b")),
		tokens("<", text("<")),
		tokens("</", text("</")),
		tokens("a<1</2< /a></ a></>", text("a<1</2< /a></ a></>")),
		tokens("<<<a></<a>", text("<<"), element("a"), text("</"), element("a")),
		tokens("<\u00e9></\u00e9>", text("<\u00e9></\u00e9>")),
		tokens("<@><[><`><{>", text("<@><[><`><{>")),
		tokens("<a></a>", element("a"), end("a")),
	})
}

func TestP4Names(t *testing.T) {
	checkTokens(t, []tokenCase{
		tokens("<a></z><A></Z>", element("a"), end("z"), element("a"), end("z")),
		tokens("<H1-:.\"'=&amp;<x>", element("h1-:.\"'=&amp;<x")),
		tokens("</H1-:.\"'=&amp;<x>", end("h1-:.\"'=&amp;<x")),
		tokens("<a\u00c9\u212a>", element("a\u00c9\u212a")),
		tokens("<a\f\v\u00a0\u0085>", element("a\f\v\u00a0\u0085")),
		tokens("<a/><b /></c/><d//>", element("a"), element("b"), end("c"), element("d")),
		tokens("<a \t\n\r/ >", element("a")),
		tokens("<averyveryverylongname>", element("averyveryverylongname")),
	})
}

func TestP4Attributes(t *testing.T) {
	checkTokens(t, []tokenCase{
		tokens("<a b>", element("a", "b", "")),
		tokens("<a/b/c>", element("a", "b", "", "c", "")),
		tokens("<a b=c>", element("a", "b", "c")),
		tokens("<a b \t\n= \t\nc>", element("a", "b", "c")),
		tokens("<a b =>", element("a", "b", "")),
		tokens("<a b= >x", element("a", "b", ""), text("x")),
		tokens("<a b=/>", element("a", "b", "/")),
		tokens("<a b=/ c>", element("a", "b", "/", "c", "")),
		tokens("<a b/=c>", element("a", "b", "", "=c", "")),
		tokens("<a b /c=d>", element("a", "b", "", "c", "d")),
		tokens("<a =>", element("a", "=", "")),
		tokens("<a ===>", element("a", "=", "=")),
		tokens("<a =b=c>", element("a", "=b", "c")),
		tokens("<a = b>", element("a", "=", "", "b", "")),
		tokens("<a b==c=d>", element("a", "b", "=c=d")),
		tokens("<a \"b=c'>", element("a", "\"b", "c'")),
		tokens("<a ' \">", element("a", "'", "", "\"", "")),
		tokens("<a b=c\"d'e<f>", element("a", "b", "c\"d'e<f")),
		tokens("<a b=\"\" c=''>", element("a", "b", "", "c", "")),
		tokens("<a b=\"' >/=\n\" c='\" >/=\n'>", element("a", "b", "' >/=\n", "c", "\" >/=\n")),
		tokens("<a b=\"c\"d='e'f>", element("a", "b", "c", "d", "e", "f", "")),
		tokens("<a b=\"c\"=d>", element("a", "b", "c", "=d", "")),
		tokens("<a <b>", element("a", "<b", "")),
		tokens("<a \u00c9=\u00c9 \u212a>", element("a", "\u00c9", "\u00c9", "\u212a", "")),
		tokens("<a \u00a0=\f>", element("a", "\u00a0", "\f")),
		tokens("<a &lt;=1>", element("a", "&lt;", "1")),
		tokens("<a B=C>", element("a", "b", "C")),
	})
}

func TestP4AttributesTwice(t *testing.T) {
	checkTokens(t, []tokenCase{
		tokens("<a b=1 c b=2 B=3 b>", element("a", "b", "1", "c", "")),
		tokens("<a b b=2>", element("a", "b", "")),
		tokens("<a \u00c9 \u00e9>", element("a", "\u00c9", "", "\u00e9", "")),
		tokens("<a b=1><a b=2></a b=3><a b=4>", element("a", "b", "1"), element("a", "b", "2"), end("a"), element("a", "b", "4")),
		tokens("<a =1/=1=2>", element("a", "=1", "")),
		tokens("<a =1 =1=2>", element("a", "=1", "1=2")),
		tokens("<a b=1 b='>'>", element("a", "b", "1")),
	})
}

func TestP4TagsWithoutTheirEnd(t *testing.T) {
	for _, tag := range []string{"<a", "</a", "<a ", "<a/", "<a b", "<a b ", "<a b=", "<a b= ", "<a b=c", "<a b=c ", "<a b='", "<a b='c", "<a b='c>", "<a b=\"c>'", "<a b='c'", "<a b='c' ", "<a b='c'/", "</a b='>", "<code", "<code <b", "<a<b", "</a<b", "<a <!--"} {
		checkTokens(t, []tokenCase{
			tokens(tag),
			tokens("x"+tag, text("x")),
			tokens("<b>"+tag, element("b")),
		})
	}
}

func TestP4Ends(t *testing.T) {
	checkTokens(t, []tokenCase{
		tokens("</a b=1 c>x", end("a"), text("x")),
		tokens("</a b='>'>x", end("a"), text("x")),
		tokens("</A/>", end("a")),
		tokens("</br></zz>", end("br"), end("zz")),
		tokens("</code><b>&amp;", end("code"), element("b"), text("&")),
	})
}

func TestP4Comments(t *testing.T) {
	checkTokens(t, []tokenCase{
		tokens("<!---->", comment("")),
		tokens("<!--a-->b-->", comment("a"), text("b-->")),
		tokens("<!--a--><!--b-->", comment("a"), comment("b")),
		tokens("<!--<a>&amp;</a>--->", comment("<a>&amp;</a>-")),
		tokens("<!--a--!>b->c--", comment("a--!>b->c--")),
		tokens("<!--", comment("")),
		tokens("<!-->", comment(">")),
		tokens("<!--->", comment("->")),
		tokens("<!-->-->", comment(">")),
		tokens("<!-", comment("-")),
		tokens("<!->x", comment("-"), text("x")),
		tokens("<!- -->x", comment("- --"), text("x")),
		tokens("<!>x", comment(""), text("x")),
		tokens("<!", comment("")),
		tokens("<!doctype '>'>", comment("doctype '"), text("'>")),
		tokens("<?>x", comment(""), text("x")),
		tokens("<?", comment("")),
		tokens("<?--a-->b", comment("--a--"), text("b")),
		tokens("<?x &lt;", comment("x &lt;")),
		tokens("a<!b>c<?d>e", text("a"), comment("b"), text("c"), comment("d"), text("e")),
	})
}

func TestP4NamedReferences(t *testing.T) {
	for name, letter := range map[string]string{"amp": "&", "lt": "<", "gt": ">", "quot": "\"", "nbsp": "\u00a0", "apos": "'"} {
		whole := "&" + name + ";"
		checkTokens(t, []tokenCase{
			tokens(whole+"x"+whole, text(letter+"x"+letter)),
			tokens("<a b='x"+whole+"'>", element("a", "b", "x"+letter)),
			tokens("<a b=\""+whole+"x\">", element("a", "b", letter+"x")),
			tokens("<a b="+whole+">", element("a", "b", letter)),
			tokens("&&"+whole+";", text("&&"+letter+";")),
			tokens("<!--"+whole+"-->", comment(whole)),
			tokens("<code>"+whole, element("code"), text(whole)),
			tokens("<a "+whole+">", element("a", whole, "")),
		})
		for _, wrong := range []string{"&" + name, "&" + name + " ;", "& " + name + ";", "&" + strings.ToUpper(name) + ";", "&" + name + "x;", "&x" + name + ";", "&" + name[1:] + ";", name + ";", "&#" + name + ";"} {
			checkTokens(t, []tokenCase{
				tokens(wrong, text(wrong)),
				tokens("<a b='"+wrong+"'>", element("a", "b", wrong)),
			})
		}
	}
	checkTokens(t, []tokenCase{
		tokens("&amp;lt;", text("&lt;")),
		tokens("&amp;#65;", text("&#65;")),
		tokens("&lt;a&gt;", text("<a>")),
		tokens("&am<a>p;", text("&am"), element("a"), text("p;")),
		tokens("&a&lt;", text("&a<")),
		tokens("&;&copy;&", text("&;&copy;&")),
	})
}

func TestP4NumberedReferences(t *testing.T) {
	for number, letter := range map[int]string{
		0: "\ufffd", 1: "\x01", 9: "\t", 10: "\n", 12: "\f", 13: "\n", 14: "\x0e", 38: "&", 60: "<", 128: "\u0080", 160: "\u00a0",
		55295: "\ud7ff", 55296: "\ufffd", 56320: "\ufffd", 57343: "\ufffd", 57344: "\ue000", 65533: "\ufffd", 65535: "\uffff",
		65536: "\U00010000", 1114111: "\U0010ffff", 1114112: "\ufffd", 1 << 31: "\ufffd", 1<<32 + 65: "\ufffd", 1 << 62: "\ufffd",
	} {
		hex := strconv.FormatInt(int64(number), 16)
		for _, s := range []string{
			"&#" + strconv.Itoa(number) + ";", "&#000" + strconv.Itoa(number) + ";",
			"&#x" + hex + ";", "&#X" + strings.ToUpper(hex) + ";", "&#x00" + hex + ";",
		} {
			checkTokens(t, []tokenCase{
				tokens(s, text(letter)),
				tokens("<a b=\""+s+"\" c="+s+">", element("a", "b", letter, "c", letter)),
			})
		}
	}
	for _, wrong := range []string{"&#", "&#;", "&#x", "&#x;", "&#X;", "&#65", "&#x41", "&#65 ;", "&# 65;", "&#6a;", "&#a;", "&#xg;", "&#x4G;", "&#-1;", "&#+1;", "&#6_5;", "&#x0x41;", "&#x-1;", "&65;", "&x41;", "& #65;", "&#\u0661;"} {
		checkTokens(t, []tokenCase{tokens(wrong, text(wrong))})
	}
	checkTokens(t, []tokenCase{
		tokens("&#18446744073709551681;&#x10000000000000041;", text("\ufffd\ufffd")), // 65 above a power of two
		tokens("&#"+strings.Repeat("9", 5000)+";&#"+strings.Repeat("0", 5000)+"65;", text("\ufffdA")),
		tokens("&#13;&#10;", text("\n\n")),
		tokens("&#&#65;", text("&#A")),
		tokens("<a b=&#62;>", element("a", "b", ">")),
	})
}

func TestP4Code(t *testing.T) {
	checkTokens(t, []tokenCase{
		tokens("<code><b a='>&amp;<!--</b></code>x&amp;", element("code"), text("<b a='>&amp;<!--</b>"), end("code"), text("x&")),
		tokens("<code></code>", element("code"), end("code")),
		tokens("<CoDe a=1>x</cOdE>", element("code", "a", "1"), text("x"), end("code")),
		tokens("<code/>x<b>", element("code"), text("x<b>")),
		tokens("<code>x", element("code"), text("x")),
		tokens("<code>", element("code")),
		tokens("<code><code></code></code>", element("code"), text("<code>"), end("code"), end("code")),
		tokens("<code></codes></code", element("code"), text("</codes></code")),
		tokens("<code></cod></ code></code\f></code\u00a0></code/>", element("code"), text("</cod></ code></code\f></code\u00a0>"), end("code")),
		tokens("<code>x</code\t>y", element("code"), text("x"), end("code"), text("y")),
		tokens("<code>x</code ", element("code"), text("x")),
		tokens("<code>x</code/y='>", element("code"), text("x")),
		tokens("<code><</code><b>", element("code"), text("<"), end("code"), element("b")),
		tokens("<code></</code></code>", element("code"), text("</"), end("code"), end("code")),
		tokens("<code a='<code>'>&lt;", element("code", "a", "<code>"), text("&lt;")),
		tokens("<codex>&lt;<b>", element("codex"), text("<"), element("b")),
		tokens("<a code>&lt;", element("a", "code", ""), text("<")),
	})
}

func TestP4EachByteBehindTheLess(t *testing.T) {
	for b := byte(1); b < 128; b++ {
		letter := 'a' <= b && b <= 'z' || 'A' <= b && b <= 'Z'
		whole := "<" + string(rune(b)) + ">"
		got := Tokens(whole)
		switch {
		case letter:
			if len(got) != 1 || got[0].Kind != api.Element {
				t.Errorf("Tokens(%q): %#v, want an element", whole, got)
			}
		case b == '!' || b == '?':
			if len(got) != 1 || got[0].Kind != api.Comment {
				t.Errorf("Tokens(%q): %#v, want a comment", whole, got)
			}
		default:
			checkTokens(t, []tokenCase{tokens(whole, text(Clean(whole)))})
		}
		ending := "</" + string(rune(b)) + ">"
		if letter {
			checkTokens(t, []tokenCase{tokens(ending, end(strings.ToLower(string(rune(b)))))})
		} else {
			checkTokens(t, []tokenCase{tokens(ending, text(Clean(ending)))})
		}
	}
}

func TestP4EachByteInNames(t *testing.T) {
	for b := byte(1); b < 128; b++ {
		inside := Clean(strings.ToLower(string(rune(b))))
		element1, attr1 := element("a"+inside+"z"), element("a", "x"+inside+"z", "")
		switch b {
		case ' ', '\t', '\n', '\r', '/':
			element1, attr1 = element("a", "z", ""), element("a", "x", "", "z", "")
		case '=':
			attr1 = element("a", "x", "z")
		case '>':
			continue
		}
		checkTokens(t, []tokenCase{
			tokens("<a"+string(rune(b))+"z>", element1),
			tokens("<a x"+string(rune(b))+"z>", attr1),
		})
	}
}

func TestP4Long(t *testing.T) {
	const times = 200000
	for _, c := range []struct {
		s    string
		want int
	}{
		{strings.Repeat("<a>", times), times},
		{strings.Repeat("<", times), 1},
		{strings.Repeat("</", times), 1},
		{strings.Repeat("&", times), 1},
		{strings.Repeat("&#1", times), 1},
		{strings.Repeat("&#x", times), 1},
		{"&#" + strings.Repeat("1", times), 1},
		{strings.Repeat("<!", times), 1},
		{strings.Repeat("<!-->", times), times / 2}, // each second one ends the comment
		{"<!--" + strings.Repeat("--", times), 1},
		{strings.Repeat("<!>", times), times},
		{strings.Repeat("<a '", times), 0},
		{"<code>" + strings.Repeat("</code", times), 2},
		{strings.Repeat("<code></code>", times), 2 * times},
		{strings.Repeat("<a b c>x", times), 2 * times},
	} {
		if got := Tokens(c.s); len(got) != c.want {
			t.Errorf("Tokens(%q..), %d bytes: %d tokens, want %d", c.s[:8], len(c.s), len(got), c.want)
		}
	}
}

func TestP4ManyAttributes(t *testing.T) {
	const times = 100000
	var s strings.Builder
	for i := range times {
		s.WriteString(" n" + strconv.Itoa(i) + "=" + strconv.Itoa(i) + " N" + strconv.Itoa(i) + "=twice")
	}
	got := Tokens("<a" + s.String() + ">")
	if len(got) != 1 || len(got[0].Attrs) != times {
		t.Fatalf("%d tokens, want one with %d attributes", len(got), times)
	}
	for i, a := range got[0].Attrs {
		if want := (api.Attr{Name: "n" + strconv.Itoa(i), Value: strconv.Itoa(i)}); a != want {
			t.Fatalf("attribute %d: %q, want %q", i, a, want)
		}
	}
}

// TestP2TokensShareNothing writes into all of an answer, spare room too: neither its other lists nor another answer may change.
func TestP2TokensShareNothing(t *testing.T) {
	const s = "<a b c d><e f=1 g=2 h=3 i=4 j=5><k><l m></n o><p q r s t u v>x<!--y-->"
	want, got := Tokens(s), Tokens(s)
	if !reflect.DeepEqual(got, want) {
		t.Fatalf("Tokens(%q) twice: %#v and %#v", s, want, got)
	}
	for i := range got {
		room := got[i].Attrs[:cap(got[i].Attrs)]
		for k := range room {
			room[k].Name = strconv.Itoa(i)
		}
	}
	for i := range got {
		for _, a := range got[i].Attrs[:cap(got[i].Attrs)] {
			if a.Name != strconv.Itoa(i) {
				t.Errorf("token %d shares its attributes with another", i)
			}
		}
	}
	clear(got[:cap(got)])
	if again := Tokens(s); !reflect.DeepEqual(again, want) {
		t.Errorf("Tokens(%q) after its answer was written into: %#v, want %#v", s, again, want)
	}
}
