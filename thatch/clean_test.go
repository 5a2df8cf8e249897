package thatch

import (
	"strings"
	"testing"
	"unicode/utf8"
)

func TestP3CleanTable(t *testing.T) {
	for _, c := range []struct{ name, s, want string }{
		{"nothing", "", ""},
		{"ordinary", "a b\tc\nd", "a b\tc\nd"},
		{"the document's example", "a\r\nb\rc\xff\x00", "a\nb\nc\ufffd\ufffd"},
		{"letters of two, three and four bytes", "\u00e9\u20ac\U0001f600", "\u00e9\u20ac\U0001f600"},
		{"U+FFFD itself", "\ufffd", "\ufffd"},
		{"the greatest letter", "\U0010ffff", "\U0010ffff"},
		{"a byte order mark stays", "\ufeffa", "\ufeffa"},
		{"other controls stay", "\x01\x0b\x0c\x1b\x7f\u0085\u2028", "\x01\x0b\x0c\x1b\x7f\u0085\u2028"},
		{"the byte 0", "\x00a\x00\x00", "\ufffda\ufffd\ufffd"},
		{"a carriage return at the end", "a\r", "a\n"},
		{"carriage returns in a row", "\r\r\r", "\n\n\n"},
		{"only the last one has the newline", "\r\r\n\n\r", "\n\n\n\n"},
		{"a newline ahead", "\n\r", "\n\n"},
		{"a bad byte between", "\r\xff\n", "\n\ufffd\n"},
		{"a byte that goes on after none", "a\x80b", "a\ufffdb"},
		{"a sequence cut off at the end", "\xe2\x82", "\ufffd\ufffd"},
		{"a sequence cut off by a letter", "\xe2\x82a", "\ufffd\ufffda"},
		{"a sequence cut off by a valid one", "\xe2\xc3\xa9", "\ufffd\u00e9"},
		{"a sequence cut off by a carriage return", "\xf0\x9f\r\n", "\ufffd\ufffd\n"},
		{"longer than need be", "\xc0\x80\xe0\x80\xaf", "\ufffd\ufffd\ufffd\ufffd\ufffd"},
		{"a surrogate", "\xed\xa0\x80\xed\xbf\xbf", strings.Repeat("\ufffd", 6)},
		{"above the greatest letter", "\xf4\x90\x80\x80", strings.Repeat("\ufffd", 4)},
		{"bytes that begin nothing", "\xf5\xfe\xff", "\ufffd\ufffd\ufffd"},
	} {
		if got := Clean(c.s); got != c.want {
			t.Errorf("%s: Clean(%q): %q, want %q", c.name, c.s, got, c.want)
		}
	}
}

func TestP3CleanEachPairOfBytes(t *testing.T) {
	for first := range 256 {
		for second := range 256 {
			s := string([]byte{byte(first), byte(second)})
			want := strings.NewReplacer("\r\n", "\n", "\r", "\n", "\x00", "\ufffd").Replace(string([]rune(s)))
			got := Clean(s)
			if got != want {
				t.Fatalf("Clean(%q): %q, want %q", s, got, want)
			}
			if !utf8.ValidString(got) || strings.ContainsAny(got, "\x00\r") {
				t.Fatalf("Clean(%q): %q is not clean", s, got)
			}
			if again := Clean(got); again != got {
				t.Fatalf("Clean(%q): %q, cleaned again %q", s, got, again)
			}
		}
	}
}

func TestP3CleanLong(t *testing.T) {
	const times = 1 << 18
	got := Clean(strings.Repeat("\r\n\xff\r", times))
	if got != strings.Repeat("\n\ufffd\n", times) {
		t.Errorf("a long text is not cleaned all through: %d bytes", len(got))
	}
}
