package brackets

import (
	"strings"
	"unicode/utf8"
)

// ended is what ends the reading of a class where the text does.
type ended struct{}

// text is what a class stands in, and how far it was taken. It is embedded in what reads the class.
type text struct {
	all  string
	next int // the byte that is taken next
}

// textAt is a text from a place on. Where it has no such place nothing stands, as behind all.
func textAt(s string, at int) text {
	if at < 0 || at > len(s) {
		at = len(s)
	}
	return text{all: s, next: at}
}

// left is what was not taken yet.
func (t *text) left() string { return t.all[t.next:] }

// take takes just these bytes, and tells whether they stand next.
func (t *text) take(part string) bool {
	is := strings.HasPrefix(t.left(), part)
	if is {
		t.next += len(part)
	}
	return is
}

// takeRune takes the next rune; the text may not end here.
func (t *text) takeRune() rune {
	c, size := utf8.DecodeRuneInString(t.left())
	if size == 0 {
		panic(ended{})
	}
	t.next += size
	return c
}

// takeSome takes as many of these letters as stand next.
func (t *text) takeSome(letters string) string {
	left := t.left()
	some := left[:len(left)-len(strings.TrimLeft(left, letters))]
	t.next += len(some)
	return some
}
