package scan

import (
	"martello/api"
	"martello/classes"
)

// escape reads a backslash, and what belongs to it.
type escape struct {
	reader
	perl bool
}

// takeHex takes what must stand behind \x, and tells the rune of that number: two digits, or any number of them in braces.
func (e *escape) takeHex() (rune, bool) {
	if !e.take("{") {
		number, digits := e.takeNumber(16, 2, api.MaxRune)
		return rune(number), digits == 2
	}
	number, digits := e.takeNumber(16, len(e.text), api.MaxRune)
	return rune(number), digits > 0 && number <= api.MaxRune && e.take("}")
}

// takeProperty takes what must stand behind \p, and tells the name: a rune, or what stands in braces.
func (e *escape) takeProperty() (string, bool) {
	if e.take("{") {
		return e.takeTo("}")
	}
	begin := e.next
	_, is := e.takeRune()
	return e.text[begin:e.next], is
}

// alone is what a rune means by itself, with nothing of the text behind it; and whether it means anything.
func (e *escape) alone(c rune) (api.Esc, bool) {
	if meant, is := oneRune(c); is {
		return api.Esc{Kind: api.EscRune, Rune: meant}, true
	}
	if e.perl {
		return perlLetter(c)
	}
	return api.Esc{}, false
}

// oneRune is the rune that a sign or a letter means in both flavours; and whether it means one.
func oneRune(c rune) (rune, bool) {
	switch c {
	case 'a':
		return '\a', true
	case 'f':
		return '\f', true
	case 'n':
		return '\n', true
	case 'r':
		return '\r', true
	case 't':
		return '\t', true
	case 'v':
		return '\v', true
	}
	return c, isSign(c)
}

// perlLetter is what a letter means in the flavour that has such letters; and whether it means anything.
func perlLetter(c rune) (api.Esc, bool) {
	switch c {
	case 'd', 's', 'w', 'D', 'S', 'W':
		set, is := classes.Perl(byte(c))
		return api.Esc{Kind: api.EscSet, Set: set}, is
	case 'A':
		return api.Esc{Kind: api.EscAt, At: api.AtBegin}, true
	case 'z':
		return api.Esc{Kind: api.EscAt, At: api.AtEnd}, true
	case 'b':
		return api.Esc{Kind: api.EscAt, At: api.AtWord}, true
	case 'B':
		return api.Esc{Kind: api.EscAt, At: api.AtNoWord}, true
	case 'Q':
		return api.Esc{Kind: api.EscQuote}, true
	}
	return api.Esc{}, false
}

// isSign: is it one of the signs that a backslash makes a rune, whatever they mean without?
func isSign(c rune) bool {
	return c >= '!' && c <= '/' || c >= ':' && c <= '@' || c >= '[' && c <= '`' || c >= '{' && c <= '~'
}
