package brackets_test

import (
	"strings"
	"testing"

	"martello/api"
	"martello/classes"
	"martello/sets"
)

// names are those between colons that there are.
func names() []string {
	return strings.Fields("alnum alpha ascii blank cntrl digit graph lower print punct space upper word xdigit")
}

// TestNames: K1: each name that there is, as it is and turned by its own ^, in both flavours; and some by numbers.
func TestNames(t *testing.T) {
	for _, name := range names() {
		for _, ahead := range []string{"", "^"} {
			set, is := classes.Posix(ahead + name)
			if !is {
				t.Fatal(ahead + name)
			}
			text := "[[:" + ahead + name + ":]]"
			holds(t, text, flavours(), answer{set: set, end: len(text)})
			holds(t, text[:len(text)-1]+text[1:], flavours(), answer{set: set, end: 2*len(text) - 2})
			holds(t, text[:len(text)-1]+"é]", flavours(), answer{set: sets.Union(set, ranges('é', 'é')), end: len(text) + 2})
		}
	}
	for text, want := range map[string]answer{
		"[[:digit:]]": has(11, '0', '9'), "[[:^digit:]]": has(12, 0, '/', ':', 0x10ffff), "[[:space:]]": has(11, 9, 13, ' ', ' '), "[[:upper:][:digit:]]": has(20, '0', '9', 'A', 'Z'), "[x[:upper:]]": has(12, 'A', 'Z', 'x', 'x'), "[[:upper:]x]": has(12, 'A', 'Z', 'x', 'x'), "[[:^ascii:]a-c]": has(15, 'a', 'c', 0x80, 0x10ffff), "[[:ascii:][:^ascii:]]": has(21, 0, 0x10ffff), "[[:digit:]]]": has(11, '0', '9'), "[][:digit:]]": has(12, '0', '9', ']', ']'), "[[[:digit:]]": has(12, '0', '9', '[', '['), "[[:digit:][]": has(12, '0', '9', '[', '['), "[[:digit:]^]": has(12, '0', '9', '^', '^'), "[[:digit:]:]": has(12, '0', ':'), "[:[:digit:]]": has(12, '0', ':'),
	} {
		holds(t, text, flavours(), want)
	}
}

// TestNoNames: K1: a name between colons that there is not is wrong, from its [ to behind its :].
func TestNoNames(t *testing.T) {
	all := []string{"", "x", "^", "^^", "^^digit", "digit^", "di^git", "dig", "digits", "alph", "alphaa", "digitdigit", "any", "latin", "d", "w", strings.Repeat("a", 100), strings.Repeat("^", 100)}
	for _, name := range names() {
		all = append(all, "^^"+name, name+"^", name[2:], name[:len(name)-1], name+"s")
	}
	for _, name := range all {
		item := "[:" + name + ":]"
		for _, ahead := range []string{"", "a", "é", "]", "-", "a-z", "[:digit:]", `\n`, "[", "\xff"} {
			begin := 1 + len(ahead)
			for _, behind := range []string{"]", "", "-z]", "[:y:]]", "b-a]"} {
				holds(t, "["+ahead+item+behind, flavours(), wrongly(api.ErrClassRange, begin, begin+len(item)))
			}
		}
	}
}

// TestNoNameItems: K1: a [: with anything else behind the letters is none of this: the [ is a rune, and so is what follows.
func TestNoNameItems(t *testing.T) {
	for text, want := range map[string]answer{
		"[[:]": has(4, ':', ':', '[', '['), "[[:a]": has(5, ':', ':', '[', '[', 'a', 'a'), "[[:digit]": has(9, ':', ':', '[', '[', 'd', 'd', 'g', 'g', 'i', 'i', 't', 't'), "[[:digit]:]": has(9, ':', ':', '[', '[', 'd', 'd', 'g', 'g', 'i', 'i', 't', 't'), "[[:digit;]]": has(10, ':', ';', '[', '[', 'd', 'd', 'g', 'g', 'i', 'i', 't', 't'), "[[:Digit:]]": has(10, ':', ':', 'D', 'D', '[', '[', 'g', 'g', 'i', 'i', 't', 't'), "[[:dIgit:]]": has(10, ':', ':', 'I', 'I', '[', '[', 'd', 'd', 'g', 'g', 'i', 'i', 't', 't'), "[[:a1:]]": has(7, '1', '1', ':', ':', '[', '[', 'a', 'a'), "[[:a b:]]": has(8, ' ', ' ', ':', ':', '[', '[', 'a', 'b'), "[[: digit:]]": has(11, ' ', ' ', ':', ':', '[', '[', 'd', 'd', 'g', 'g', 'i', 'i', 't', 't'), "[[:é:]]": has(7, ':', ':', '[', '[', 0xe9, 0xe9), "[[:a\xff:]]": has(7, ':', ':', '[', '[', 'a', 'a', 0xfffd, 0xfffd), "[[:_:]]": has(6, ':', ':', '[', '[', '_', '_'),
		"[[:a:b:]]": has(8, ':', ':', '[', '[', 'a', 'b'), "[[:a::]]": has(7, ':', ':', '[', '[', 'a', 'a'), "[[:a-z:]]": has(8, ':', ':', '[', '[', 'a', 'z'), "[[:z-a:]]": wrongly(api.ErrClassRange, 3, 6), "[[:-a]": has(6, ':', 'a'), "[[:a-]": has(6, '-', '-', ':', ':', '[', '[', 'a', 'a'), "[[:a:-z]": has(8, ':', 'z'), "[[:a:^]": has(7, ':', ':', '[', '[', '^', '^', 'a', 'a'), `[[:a\:]]`: has(7, ':', ':', '[', '[', 'a', 'a'), `[[\:digit:]]`: has(11, ':', ':', '[', '[', 'd', 'd', 'g', 'g', 'i', 'i', 't', 't'), `[\[:digit:]]`: has(11, ':', ':', '[', '[', 'd', 'd', 'g', 'g', 'i', 'i', 't', 't'), "[:digit:]": has(9, ':', ':', 'd', 'd', 'g', 'g', 'i', 'i', 't', 't'), "[:digit:]]": has(9, ':', ':', 'd', 'd', 'g', 'g', 'i', 'i', 't', 't'),
		"[[:[:digit:]]": has(13, '0', ':', '[', '['), "[[[:[:digit:]]": has(14, '0', ':', '[', '['), "[[:a[:digit:]]": has(14, '0', ':', '[', '[', 'a', 'a'), "[[:digit:[:digit:]]": has(19, '0', ':', '[', '[', 'd', 'd', 'g', 'g', 'i', 'i', 't', 't'), "[[:digit[:x:]]": wrongly(api.ErrClassRange, 8, 13), "[[^:digit:]]": has(11, ':', ':', '[', '[', '^', '^', 'd', 'd', 'g', 'g', 'i', 'i', 't', 't'), "[[.digit.]]": has(10, '.', '.', '[', '[', 'd', 'd', 'g', 'g', 'i', 'i', 't', 't'),
		"[[:": wrongly(api.ErrBracket, 0, 3), "[[:digit": wrongly(api.ErrBracket, 0, 8), "[[:digit:": wrongly(api.ErrBracket, 0, 9), "[[:digit:]": wrongly(api.ErrBracket, 0, 10), "[[:x:": wrongly(api.ErrBracket, 0, 5), "[[:^": wrongly(api.ErrBracket, 0, 4), "[[::": wrongly(api.ErrBracket, 0, 4), "[[:digit:a": wrongly(api.ErrBracket, 0, 10), "[[:digit: ]": has(11, ' ', ' ', ':', ':', '[', '[', 'd', 'd', 'g', 'g', 'i', 'i', 't', 't'),
	} {
		holds(t, text, flavours(), want)
	}
}

// TestNameBytes: K1: each byte between the colons, alone and behind a letter: just those of the names' letters make a name, which there is not.
func TestNameBytes(t *testing.T) {
	letters := "abcdefghijklmnopqrstuvwxyz^"
	for b := range 256 {
		for _, ahead := range []string{"", "q"} {
			text := "[[:" + ahead + string([]byte{byte(b)}) + ":]]"
			want := model(text, 0, 0)
			if strings.IndexByte(letters, byte(b)) >= 0 != (want.wrong == api.Wrong{E: api.ErrClassRange, From: 1, To: len(text) - 1}) {
				t.Errorf("%q: the model tells %x", text, want)
			}
			holds(t, text, flavours(), want)
		}
	}
}

// TestLongNames: P1: [: behind [:, and letters behind it, any number of them, end.
func TestLongNames(t *testing.T) {
	for _, part := range []string{"[:", "[:a", "[:^", "[:digit:", "[:é", "[:\xff", "[", ":"} {
		text := "[" + strings.Repeat(part, 5000)
		is(t, text, 0, 0, wrongly(api.ErrBracket, 0, len(text)))
		is(t, text+"[:digit:]", 0, 0, wrongly(api.ErrBracket, 0, len(text)+9))
		is(t, text+"[:x:]]", 0, 0, wrongly(api.ErrClassRange, len(text), len(text)+5))
		if got := ask(text+"z]", 0, 0); got.wrong.E != api.OK || got.end != len(text)+2 {
			t.Errorf("%q, many times: %x", part, got)
		}
	}
	letters := "[[:" + strings.Repeat("digit", 5000)
	is(t, letters, 0, 0, wrongly(api.ErrBracket, 0, len(letters)))
	is(t, letters+":]", 0, 0, wrongly(api.ErrClassRange, 1, len(letters)+2))
	is(t, letters+"]:]", 0, 0, has(len(letters)+1, ':', ':', '[', '[', 'd', 'd', 'g', 'g', 'i', 'i', 't', 't'))
}
