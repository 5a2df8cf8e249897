package markup

import "strings"

// EscapeText writes a text so that Tokens reads it again as it was.
func EscapeText(s string) string {
	return escape(s, "&<>\u00a0")
}

// EscapeValue writes an attribute's value so that Tokens, between two ", reads it again as it was.
func EscapeValue(s string) string {
	return escape(s, "&\"\u00a0")
}

// escape puts references in the place of these letters.
func escape(s string, letters string) string {
	var out strings.Builder
	for _, letter := range s {
		if strings.ContainsRune(letters, letter) {
			out.WriteString(referenceTo(letter))
		} else {
			out.WriteRune(letter)
		}
	}
	return out.String()
}

// referenceTo tells the reference by name to a letter; the letter itself, if there is none.
func referenceTo(letter rune) string {
	for _, r := range named {
		if r.letter == letter {
			return r.written
		}
	}
	return string(letter)
}

// IsAttrName tells whether Tokens reads a name, written as an attribute's, again as it is.
func IsAttrName(name string) bool {
	if name == "" || name != Clean(name) || name != lower(name) {
		return false
	}
	// A = is part of a name where it begins it, and ends it elsewhere.
	return strings.IndexByte(nameEnds, name[0]) < 0 && !strings.ContainsAny(name[1:], attrEnds)
}
