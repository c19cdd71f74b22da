package printer

import (
	"strings"

	"martello/api"
)

// What stands for itself beside letters and digits, and the signs that mean more where no backslash stands ahead.
const (
	itself = " _!\"#%&',-/:;<=>@~`"
	signs  = `\.+*?()|[]{}^$`
)

// ofRune is the text of a rune that stands alone.
func ofRune(c rune) string {
	switch {
	case isLetter(c), isDigit(c), strings.ContainsRune(itself, c):
		return string(c)
	case strings.ContainsRune(signs, c):
		return joined(`\`, string(c))
	}
	return numbered(c)
}

func isLetter(c rune) bool { return c >= 'a' && c <= 'z' || c >= 'A' && c <= 'Z' }

func isDigit(c rune) bool { return c >= '0' && c <= '9' }

// numbered is a rune by its number, which may stand between brackets, too.
func numbered(c rune) string { return joined(`\x{`, number(int(c), 16), "}") }

// ofSet is a class between brackets.
func ofSet(set []api.Range) string {
	parts := []string{"["}
	for _, r := range set {
		parts = append(parts, numbered(r.Lo))
		if r.Hi != r.Lo {
			parts = append(parts, "-", numbered(r.Hi))
		}
	}
	return joined(append(parts, "]")...)
}

// ofAt is the text of a place. Those at lines' ends carry the flag that they need with them: the text is read without it.
func ofAt(at api.At) string {
	switch at {
	case api.AtBegin:
		return `\A`
	case api.AtEnd:
		return `\z`
	case api.AtBeginLine:
		return `(?m:^)`
	case api.AtEndLine:
		return `(?m:$)`
	case api.AtWord:
		return `\b`
	}
	return `\B`
}

// number is a number that is not below 0, in a base, without noughts ahead.
func number(n, base int) string {
	var digits []byte
	var put func(n int)
	put = func(n int) {
		if n >= base {
			put(n / base)
		}
		digits = append(digits, "0123456789abcdef"[n%base])
	}
	put(n)
	return string(digits)
}
