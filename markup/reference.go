package markup

import (
	"strings"
	"unicode/utf8"
)

const (
	maxLetter      = 1114111
	firstSurrogate = 55296
	lastSurrogate  = 57343
)

// reference is a reference by name, as it is written, and what it stands for.
type reference struct {
	written string
	letter  rune
}

var named [6]reference

func init() {
	named = [6]reference{
		{"&amp;", '&'},
		{"&lt;", '<'},
		{"&gt;", '>'},
		{"&quot;", '"'},
		{"&nbsp;", '\u00a0'},
		{"&apos;", '\''},
	}
}

// resolve puts letters in the place of the references in a text or a value.
func resolve(s string) string {
	var out strings.Builder
	for {
		at := strings.IndexByte(s, '&')
		if at < 0 {
			out.WriteString(s)
			return out.String()
		}
		out.WriteString(s[:at])
		s = s[at:]
		letter, size := readReference(s)
		out.WriteRune(letter)
		s = s[size:]
	}
}

// readReference reads the reference at the beginning of s, where a & stands, and tells its letter and its length in bytes. What is no reference is a & that stands for itself.
func readReference(s string) (rune, int) {
	if strings.HasPrefix(s, "&#x") || strings.HasPrefix(s, "&#X") {
		return readNumber(s, 3, 16)
	}
	if strings.HasPrefix(s, "&#") {
		return readNumber(s, 2, 10)
	}
	for _, r := range named {
		if strings.HasPrefix(s, r.written) {
			return r.letter, len(r.written)
		}
	}
	return '&', 1
}

// readNumber reads a reference whose digits begin at from.
func readNumber(s string, from int, base int) (rune, int) {
	number, at := 0, from
	for at < len(s) && digit(s[at]) < base {
		// Held at one above the greatest letter, so that digits without end do not wrap round.
		number = min(number*base+digit(s[at]), maxLetter+1)
		at++
	}
	if at == from || at == len(s) || s[at] != ';' {
		return '&', 1
	}
	return letterOf(number), at + 1
}

// digit tells what b is worth as a digit; 16, if it is none in any base.
func digit(b byte) int {
	switch {
	case '0' <= b && b <= '9':
		return int(b - '0')
	case 'a' <= b && b <= 'f':
		return int(b-'a') + 10
	case 'A' <= b && b <= 'F':
		return int(b-'A') + 10
	}
	return 16
}

// letterOf keeps out the letters that a cleaned text does not have.
func letterOf(number int) rune {
	switch {
	case number == 0, number > maxLetter, firstSurrogate <= number && number <= lastSurrogate:
		return utf8.RuneError
	case number == '\r':
		return '\n'
	}
	return rune(number)
}
