package markup

import (
	"math/big"
	"math/rand"
	"reflect"
	"regexp"
	"strings"
	"testing"

	"thatch/api"
)

// What follows reads markup a second time, by regular expressions, so that the machine can be held against it.

var (
	startOfMarkup = regexp.MustCompile(`<(?:[A-Za-z]|/[A-Za-z]|!|\?)`)
	startOfTag    = regexp.MustCompile(`^<(/?)([^ \t\n/>]+)`)
	gapInTag      = regexp.MustCompile(`^[ \t\n/]*`)
	attribute     = regexp.MustCompile(`^([^ \t\n/>][^ \t\n/>=]*)([ \t\n]*=[ \t\n]*)?`)
	bareValue     = regexp.MustCompile(`^[^ \t\n>]*`)
	endOfCode     = regexp.MustCompile(`</[cC][oO][dD][eE][ \t\n/>]`)
	anyReference  = regexp.MustCompile(`&(?:amp|lt|gt|quot|nbsp|apos|#[0-9]+|#[xX][0-9a-fA-F]+);`)
)

func expectClean(s string) string {
	return strings.NewReplacer("\r\n", "\n", "\r", "\n", "\x00", "\ufffd").Replace(string([]rune(s)))
}

func expectLower(s string) string {
	return regexp.MustCompile(`[A-Z]`).ReplaceAllStringFunc(s, strings.ToLower)
}

func expectResolved(s string) string {
	return anyReference.ReplaceAllStringFunc(s, func(r string) string {
		switch r {
		case "&amp;":
			return "&"
		case "&lt;":
			return "<"
		case "&gt;":
			return ">"
		case "&quot;":
			return "\""
		case "&nbsp;":
			return "\u00a0"
		case "&apos;":
			return "'"
		}
		digits := strings.TrimSuffix(r[2:], ";")
		base := 10
		if digits[0] == 'x' || digits[0] == 'X' {
			digits, base = digits[1:], 16
		}
		n, _ := new(big.Int).SetString(digits, base)
		if !n.IsInt64() || n.Int64() > 0x10ffff {
			return "\ufffd"
		}
		return expectClean(string(rune(n.Int64())))
	})
}

// expectTag reads a tag at the beginning of s, and tells what is left behind it; ok: it has its end.
func expectTag(s string) (tag api.Token, rest string, ok bool) {
	head := startOfTag.FindStringSubmatch(s)
	tag = api.Token{Kind: api.Element, Name: expectLower(head[2])}
	if head[1] != "" {
		tag.Kind = api.End
	}
	rest = s[len(head[0]):]
	for {
		rest = rest[len(gapInTag.FindString(rest)):]
		if rest == "" {
			return tag, "", false
		}
		if rest[0] == '>' {
			return tag, rest[1:], true
		}
		m := attribute.FindStringSubmatch(rest)
		rest = rest[len(m[0]):]
		value := ""
		if m[2] != "" && rest != "" && (rest[0] == '"' || rest[0] == '\'') {
			parts := strings.SplitN(rest, rest[:1], 3)
			if len(parts) < 3 {
				return tag, "", false
			}
			value, rest = parts[1], parts[2]
		} else if m[2] != "" {
			value = bareValue.FindString(rest)
			rest = rest[len(value):]
		}
		known := tag.Kind == api.End
		for _, a := range tag.Attrs {
			known = known || a.Name == expectLower(m[1])
		}
		if !known {
			tag.Attrs = append(tag.Attrs, api.Attr{Name: expectLower(m[1]), Value: expectResolved(value)})
		}
	}
}

func expectTokens(s string) []api.Token {
	var out []api.Token
	text := func(data string) {
		if data != "" {
			out = append(out, api.Token{Kind: api.Text, Data: data})
		}
	}
	for s = expectClean(s); s != ""; {
		at := startOfMarkup.FindStringIndex(s)
		if at == nil {
			text(expectResolved(s))
			return out
		}
		text(expectResolved(s[:at[0]]))
		s = s[at[0]:]
		if s[1] == '!' || s[1] == '?' {
			from, to := 2, ">"
			if strings.HasPrefix(s, "<!--") {
				from, to = 4, "-->"
			}
			parts := strings.SplitN(s[from:]+to, to, 2)
			out = append(out, api.Token{Kind: api.Comment, Data: parts[0]})
			s = strings.TrimSuffix(parts[1], to)
			continue
		}
		tag, rest, ok := expectTag(s)
		if !ok {
			return out
		}
		out = append(out, tag)
		s = rest
		if tag.Kind == api.Element && tag.Name == "code" {
			end := len(s)
			if at := endOfCode.FindStringIndex(s); at != nil {
				end = at[0]
			}
			text(s[:end])
			s = s[end:]
		}
	}
	return out
}

func checkReading(t *testing.T, s string) {
	t.Helper()
	if got, want := Clean(s), expectClean(s); got != want {
		t.Fatalf("Clean(%q): %q, want %q", s, got, want)
	}
	if got, want := Tokens(s), expectTokens(s); !reflect.DeepEqual(got, want) {
		t.Fatalf("Tokens(%q): %#v, want %#v", s, got, want)
	}
}

// checkAllRows reads every row of up to longest of these parts.
func checkAllRows(t *testing.T, parts []string, longest int) {
	t.Helper()
	var grow func(s string, left int)
	grow = func(s string, left int) {
		checkReading(t, s)
		if left > 0 {
			for _, p := range parts {
				grow(s+p, left-1)
			}
		}
	}
	grow("", longest)
}

func TestTokensOfAllShortMarkup(t *testing.T) {
	for name, parts := range map[string][]string{
		"tags":       {"<", "/", "a", ">", " ", "=", "'"},
		"attributes": {"<a ", "b", "B", "=", "\"", "'", ">", "\n"},
		"comments":   {"<", "!", "-", ">", "?", "x"},
		"named":      {"&", "amp", "lt", "nbsp", ";", "<b>", "#"},
		"numbered":   {"&#", "x", "X", "0", "13", "d", "D800", ";"},
		"code":       {"<code>", "</code", "</CODE", ">", "/", " ", "s", "&lt;"},
		"bytes":      {"\r", "\n", "\x00", "\xff", "\xc3", "\xa9", "<a", ">"},
	} {
		t.Run(name, func(t *testing.T) { checkAllRows(t, parts, 5) })
	}
}

func TestTokensOfMixedMarkup(t *testing.T) {
	parts := []string{"<", "</", ">", "/", "=", "'", "\"", " ", "\t", "\n", "\r", "\x00", "\xff", "\xe2\x82", "\u00e9", "\u00c9", "a", "Z", "b", "1", "-", "--", "<!--", "-->", "<!", "<?", "&", "&#", "&#x", "&amp;", "&quot;", "&nbsp;", "amp", ";", "<code>", "</code>", "<CODE ", "</Code", "<p>", "</p>", "<b a=1>"}
	random := rand.New(rand.NewSource(1))
	for range 30000 {
		var s strings.Builder
		for range random.Intn(40) {
			s.WriteString(parts[random.Intn(len(parts))])
		}
		checkReading(t, s.String())
	}
}

func FuzzTokens(f *testing.F) {
	f.Add("x&lt;<B a=1 A=2 c='d\"'>y</b ><code><!--</code><!---->\r\x00\xff&#13;")
	f.Fuzz(func(t *testing.T, s string) { checkReading(t, s) })
}
