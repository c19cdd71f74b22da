package scan

import (
	"strings"
	"unicode/utf8"
)

// reader takes a text, part by part. It is embedded in what reads one of a pattern's small parts.
type reader struct {
	text string
	next int // the byte that is taken next
}

// readerAt is a reader that begins at a place. Where the text has no such place nothing stands, as behind all.
func readerAt(s string, at int) reader {
	if at < 0 || at > len(s) {
		at = len(s)
	}
	return reader{text: s, next: at}
}

// take takes just these bytes, and tells whether they stand next.
func (r *reader) take(part string) bool {
	if !strings.HasPrefix(r.text[r.next:], part) {
		return false
	}
	r.next += len(part)
	return true
}

// takeRune takes the next rune, and tells whether there is one.
func (r *reader) takeRune() (rune, bool) {
	c, size := utf8.DecodeRuneInString(r.text[r.next:])
	r.next += size
	return c, size > 0
}

// takeTo takes what stands ahead of the next end, and the end; all that is left, if there is none.
func (r *reader) takeTo(end string) (string, bool) {
	ahead, behind, found := strings.Cut(r.text[r.next:], end)
	r.next = len(r.text) - len(behind)
	return ahead, found
}

// takeNumber takes digits of a base, so many at most, and tells their number (one more than most of all above most), and how many they are.
func (r *reader) takeNumber(base, many, most int) (int, int) {
	number, digits := 0, 0
	for digits < many && r.next < len(r.text) && digit(r.text[r.next]) < base {
		number = min(number*base+digit(r.text[r.next]), most+1) // cut here, so that any number of digits fits an int
		digits++
		r.next++
	}
	return number, digits
}

// digit is a hexadecimal digit's number; of what is none 16, which no base has.
func digit(b byte) int {
	switch {
	case b >= '0' && b <= '9':
		return int(b - '0')
	case b >= 'a' && b <= 'f':
		return int(b-'a') + 10
	case b >= 'A' && b <= 'F':
		return int(b-'A') + 10
	}
	return 16
}
