// Package markup knows how markup is spelt: it cleans texts, cuts them into tokens, and writes texts and values so that they are read again.
package markup

import (
	"strings"
	"unicode/utf8"
)

// Clean makes valid UTF-8 of any bytes, without the byte 0 and without carriage returns.
func Clean(s string) string {
	var out strings.Builder
	out.Grow(len(s))
	// A range over a string tells RuneError once for each byte that is no part of a valid sequence.
	for i, letter := range s {
		switch {
		case letter == 0:
			out.WriteRune(utf8.RuneError)
		case letter != '\r':
			out.WriteRune(letter)
		case !strings.HasPrefix(s[i+1:], "\n"): // else that newline stands for both
			out.WriteByte('\n')
		}
	}
	return out.String()
}

// lower turns A to Z alone: letters outside ASCII stay, which strings.ToLower would turn too.
func lower(s string) string {
	out := []byte(s)
	for i, b := range out {
		if 'A' <= b && b <= 'Z' {
			out[i] = b - 'A' + 'a'
		}
	}
	return string(out)
}

// isLetter tells whether b may begin an element's name.
func isLetter(b byte) bool {
	return 'a' <= b && b <= 'z' || 'A' <= b && b <= 'Z'
}
