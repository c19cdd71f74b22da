package brackets_test

import (
	"testing"

	"martello/api"
	"martello/classes"
	"martello/sets"
)

// perlAlone is the flavour with letters for sets and places, plainAlone the other one.
var (
	perlAlone  = []api.Flag{api.FlagPerl}
	plainAlone = []api.Flag{0}
)

// TestRunes: K1: a class of one rune and of several; of runes of each length, of bytes that are no UTF-8, each of which is U+FFFD.
func TestRunes(t *testing.T) {
	for text, want := range map[string]answer{
		"[a]": has(3, 'a', 'a'), "[ab]": has(4, 'a', 'b'), "[ba]": has(4, 'a', 'b'), "[aa]": has(4, 'a', 'a'), "[acx]": has(5, 'a', 'a', 'c', 'c', 'x', 'x'), "[k]": has(3, 'k', 'k'), "[\x00]": has(3, 0, 0), "[\n]": has(3, 10, 10), "[ ]": has(3, ' ', ' '),
		"[é]": has(4, 0xe9, 0xe9), "[世]": has(5, 0x4e16, 0x4e16), "[😀]": has(6, 0x1f600, 0x1f600), "[\U0010ffff]": has(6, 0x10ffff, 0x10ffff), "[aé世😀]": has(12, 'a', 'a', 0xe9, 0xe9, 0x4e16, 0x4e16, 0x1f600, 0x1f600), "[éèa]": has(7, 'a', 'a', 0xe8, 0xe9),
		"[\xff]": has(3, 0xfffd, 0xfffd), "[\xff\xfe]": has(4, 0xfffd, 0xfffd), "[a\xffb]": has(5, 'a', 'b', 0xfffd, 0xfffd), "[\xc3]": has(3, 0xfffd, 0xfffd), "[\xe4\xb8]": has(4, 0xfffd, 0xfffd), "[\xed\xa0\x80]": has(5, 0xfffd, 0xfffd), "[\xc0\x80]": has(4, 0xfffd, 0xfffd), "[\ufffd]": has(5, 0xfffd, 0xfffd), "[\xc3\xc3\xa9]": has(5, 0xe9, 0xe9, 0xfffd, 0xfffd),
		"[.]": has(3, '.', '.'), "[$*+?(){}|]": has(11, '$', '$', '(', '+', '?', '?', '{', '}'), "[&&]": has(4, '&', '&'), "[#x]": has(4, '#', '#', 'x', 'x'), "[a^]": has(4, '^', '^', 'a', 'a'), "[:]": has(3, ':', ':'), "[::]": has(4, ':', ':'),
	} {
		holds(t, text, flavours(), want)
	}
}

// TestTurned: K1: a ^ just behind the [ turns; a second one, and one further behind, is a rune.
func TestTurned(t *testing.T) {
	for text, want := range map[string]answer{
		"[^a]": has(4, 0, '`', 'b', 0x10ffff), "[^^]": has(4, 0, ']', '_', 0x10ffff), "[^^^]": has(5, 0, ']', '_', 0x10ffff), "[^^a]": has(5, 0, ']', '_', '`', 'b', 0x10ffff), "[a^]": has(4, '^', '^', 'a', 'a'), `[\^]`: has(4, '^', '^'), `[\^a]`: has(5, '^', '^', 'a', 'a'), "[^^-a]": has(6, 0, ']', 'b', 0x10ffff),
		`[^\x{0}-\x{10ffff}]`: has(19), `[^\x{1}-\x{10ffff}]`: has(19, 0, 0), `[^\x{0}-\x{10fffe}]`: has(19, 0x10ffff, 0x10ffff), `[^\P{Any}]`: has(10, 0, 0x10ffff), `[^\p{Any}]`: has(10), "[^\xff]": has(4, 0, 0xfffc, 0xfffe, 0x10ffff),
	} {
		for _, f := range flavours() {
			around(t, text, f, want)
		}
	}
	for text, want := range map[string]answer{
		"[^k]": has(4, 0, 'J', 'L', 'j', 'l', 0x2129, 0x212b, 0x10ffff), "[^K-k]": has(6, 0, '@', '{', 0x17e, 0x180, 0x2129, 0x212b, 0x10ffff), "[^1]": has(4, 0, '0', '2', 0x10ffff), "[^\u212a]": has(6, 0, 'J', 'L', 'j', 'l', 0x2129, 0x212b, 0x10ffff),
	} {
		around(t, text, api.FlagFold, want)
	}
}

// TestBrackets: K1: a ] as the first item, behind ^ too, and as a later one; a [ inside.
func TestBrackets(t *testing.T) {
	for text, want := range map[string]answer{
		"[]]": has(3, ']', ']'), "[]a]": has(4, ']', ']', 'a', 'a'), "[]]]": has(3, ']', ']'), "[a]]": has(3, 'a', 'a'), "[a]b]": has(3, 'a', 'a'), "[]-a]": has(5, ']', 'a'), "[]-]": has(4, '-', '-', ']', ']'), "[]--]": wrongly(api.ErrClassRange, 1, 4), "[]-]]": has(4, '-', '-', ']', ']'), `[]\]]`: has(5, ']', ']'), `[\]]`: has(4, ']', ']'), `[\]-a]`: has(6, ']', 'a'), `[a\]b]`: has(6, ']', ']', 'a', 'b'), `[A-\]]`: has(6, 'A', ']'),
		"[[]": has(3, '[', '['), "[[[]": has(4, '[', '['), "[a[b]": has(5, '[', '[', 'a', 'b'), "[][]": has(4, '[', '[', ']', ']'), "[[]]": has(3, '[', '['), "[[a]b]": has(4, '[', '[', 'a', 'a'), "[[-a]": has(5, '[', 'a'), "[A-[]": has(5, 'A', '['), "[[-[]": has(5, '[', '['), "[^[]": has(4, 0, 'Z', '\\', 0x10ffff), "[[^a]": has(5, '[', '[', '^', '^', 'a', 'a'), "[[.a.]": has(6, '.', '.', '[', '[', 'a', 'a'), "[[=a=]": has(6, '=', '=', '[', '[', 'a', 'a'),
	} {
		if text[1] == '^' {
			around(t, text, 0, want)
			continue
		}
		holds(t, text, flavours(), want)
	}
	for text, want := range map[string]answer{
		"[^]]": has(4, 0, '\\', '^', 0x10ffff), "[^]a]": has(5, 0, '\\', '^', '`', 'b', 0x10ffff), "[^]": wrongly(api.ErrBracket, 0, 3), "[^a]]": has(4, 0, '`', 'b', 0x10ffff), "[^]-a]": has(6, 0, '\\', 'b', 0x10ffff), "[^^]]": has(4, 0, ']', '_', 0x10ffff),
	} {
		for _, f := range flavours() {
			around(t, text, f, want)
		}
	}
}

// TestDashes: K1: a - as the first item, as the last one, on both sides of another one, behind what is no rune; and as either end of a range.
func TestDashes(t *testing.T) {
	digitsDash := ranges('-', '-', '0', '9')
	for text, want := range map[string]answer{
		"[-]": has(3, '-', '-'), "[-a]": has(4, '-', '-', 'a', 'a'), "[a-]": has(4, '-', '-', 'a', 'a'), "[--]": has(4, '-', '-'), "[---]": has(5, '-', '-'), "[----]": has(6, '-', '-'), "[-----]": has(7, '-', '-'), "[-a-]": has(5, '-', '-', 'a', 'a'), "[a--]": wrongly(api.ErrClassRange, 1, 4), "[+--]": has(5, '+', '-'), "[--/]": has(5, '-', '/'), "[---/]": has(6, '-', '-', '/', '/'), "[--a]": has(5, '-', 'a'), "[----/]": has(7, '-', '-', '/', '/'), "[-----/]": has(8, '-', '/'), "[---a]": has(6, '-', '-', 'a', 'a'), "[a---]": wrongly(api.ErrClassRange, 1, 4), "[+---]": has(6, '+', '-'),
		"[a-c-e]": has(7, '-', '-', 'a', 'c', 'e', 'e'), "[a-c-]": has(6, '-', '-', 'a', 'c'), "[a-c--]": has(7, '-', '-', 'a', 'c'), "[a-c--e]": has(8, '-', 'e'), "[a-cd-f]": has(8, 'a', 'f'), "[-a-c]": has(6, '-', '-', 'a', 'c'), "[+-a]": has(5, '+', 'a'),
		"[[:digit:]-]": {set: digitsDash, end: 12}, "[-[:digit:]]": {set: digitsDash, end: 12}, "[[:digit:]-z]": has(13, '-', '-', '0', '9', 'z', 'z'), "[[:digit:]--/]": has(14, '-', '9'), "[[:digit:]-[:digit:]]": {set: digitsDash, end: 21}, "[[:digit:]--]": {set: digitsDash, end: 13},
		`[\p{Nd}-z]`: has(10, '-', '-', '0', '9', 'z', 'z', 0x660, 0x669), `[\-]`: has(4, '-', '-'), `[\-a]`: has(5, '-', '-', 'a', 'a'), `[a\-c]`: has(6, '-', '-', 'a', 'a', 'c', 'c'), `[a-\-]`: wrongly(api.ErrClassRange, 1, 5), `[+-\-]`: has(6, '+', '-'), `[\--/]`: has(6, '-', '/'), `[\-\-]`: has(6, '-', '-'), `[\-a-c]`: has(7, '-', '-', 'a', 'c'),
	} {
		holds(t, text, flavours(), want)
	}
	for text, want := range map[string]answer{
		`[\d-z]`: has(6, '-', '-', '0', '9', 'z', 'z'), `[\d-]`: {set: digitsDash, end: 5}, `[-\d]`: {set: digitsDash, end: 5}, `[\d-\d]`: {set: digitsDash, end: 7}, `[\d--/]`: has(7, '-', '9'), `[\d--\d]`: wrongly(api.ErrClassRange, 3, 7), `[--\d]`: wrongly(api.ErrClassRange, 1, 5), `[\d-a-c]`: has(8, '-', '-', '0', '9', 'a', 'c'),
	} {
		holds(t, text, perlAlone, want)
	}
}

// TestRanges: K1: ranges that rise, that are one rune, that fall; of runes of each length, of bytes that are no UTF-8; that touch, that overlap.
func TestRanges(t *testing.T) {
	for text, want := range map[string]answer{
		"[a-c]": has(5, 'a', 'c'), "[a-b]": has(5, 'a', 'b'), "[a-a]": has(5, 'a', 'a'), "[b-a]": wrongly(api.ErrClassRange, 1, 4), "[a-cx]": has(6, 'a', 'c', 'x', 'x'), "[xa-c]": has(6, 'a', 'c', 'x', 'x'), "[a-cb-e]": has(8, 'a', 'e'), "[a-cd]": has(6, 'a', 'd'), "[a-ce-g]": has(8, 'a', 'c', 'e', 'g'), "[e-ga-c]": has(8, 'a', 'c', 'e', 'g'), "[a-zb-c]": has(8, 'a', 'z'), "[Z-a]": has(5, 'Z', 'a'), "[a-Z]": wrongly(api.ErrClassRange, 1, 4), "[0-9A-Za-z_]": has(12, '0', '9', 'A', 'Z', '_', '_', 'a', 'z'), "[\x00-\U0010ffff]": has(8, 0, 0x10ffff),
		"[a-é]": has(6, 'a', 0xe9), "[é-世]": has(8, 0xe9, 0x4e16), "[世-é]": wrongly(api.ErrClassRange, 1, 7), "[世-世]": has(9, 0x4e16, 0x4e16), "[世-😀]": has(10, 0x4e16, 0x1f600), "[é-a]": wrongly(api.ErrClassRange, 1, 5), "[xé-a]": wrongly(api.ErrClassRange, 2, 6), "[éé-a]": wrongly(api.ErrClassRange, 3, 7),
		"[\xff-\xfe]": has(5, 0xfffd, 0xfffd), "[a-\xff]": has(5, 'a', 0xfffd), "[\xff-a]": wrongly(api.ErrClassRange, 1, 4), "[\xff-😀]": has(8, 0xfffd, 0x1f600), "[\xc3-\xa9]": has(5, 0xfffd, 0xfffd), "[a-\xe4\xb8]": has(6, 'a', 0xfffd), "[😀-\xff]": wrongly(api.ErrClassRange, 1, 7), "[\xff-é]": wrongly(api.ErrClassRange, 1, 5), "[\ufffd-\xff]": has(7, 0xfffd, 0xfffd),
		"[!-^]": has(5, '!', '^'), "[:-a]": has(5, ':', 'a'), "[a-:]": wrongly(api.ErrClassRange, 1, 4), "[A-[:digit:]]": has(12, ':', ':', 'A', '[', 'd', 'd', 'g', 'g', 'i', 'i', 't', 't'), "[a-[:digit:]]": wrongly(api.ErrClassRange, 1, 4), "[+-[:x:]]": has(8, '+', '[', 'x', 'x'),
	} {
		holds(t, text, flavours(), want)
	}
}

// TestRangesByEscapes: K1: ranges with an escape at either end, or at both.
func TestRangesByEscapes(t *testing.T) {
	for text, want := range map[string]answer{
		`[\x41-C]`: has(8, 'A', 'C'), `[A-\x43]`: has(8, 'A', 'C'), `[\x41-\x43]`: has(11, 'A', 'C'), `[\x{41}-\x{43}]`: has(15, 'A', 'C'), `[\x43-A]`: wrongly(api.ErrClassRange, 1, 7), `[C-\x41]`: wrongly(api.ErrClassRange, 1, 7), `[\x43-\x41]`: wrongly(api.ErrClassRange, 1, 10), `[x\x{43}-\x{41}y]`: wrongly(api.ErrClassRange, 2, 15), `[\x41-\x41]`: has(11, 'A', 'A'), `[\x41-]`: has(7, '-', '-', 'A', 'A'), `[\x41\x43]`: has(10, 'A', 'A', 'C', 'C'), `[\x414]`: has(7, '4', '4', 'A', 'A'), `[\x4141-0]`: wrongly(api.ErrClassRange, 6, 9),
		`[\n-\r]`: has(7, 10, 13), `[\t-a]`: has(6, 9, 'a'), `[\a-\v]`: has(7, 7, 11), `[\f-\a]`: wrongly(api.ErrClassRange, 1, 6), `[\x00-\x{10ffff}]`: has(17, 0, 0x10ffff), `[\x{10FFFF}-\x{10FFFF}]`: has(23, 0x10ffff, 0x10ffff), `[\x{10ffff}-\x00]`: wrongly(api.ErrClassRange, 1, 16), `[\x{D800}-\x{DFFF}]`: has(19, 0xd800, 0xdfff), `[\[-\]]`: has(7, '[', ']'), `[\]-\[]`: wrongly(api.ErrClassRange, 1, 6), `[\\-\]]`: has(7, '\\', ']'), `[Z-\\]`: has(6, 'Z', '\\'), `[é-\x{eb}]`: has(11, 0xe9, 0xeb), "[\\xff-\xff]": has(8, 0xff, 0xfffd),
	} {
		holds(t, text, flavours(), want)
	}
}

// TestRangesOfNoRune: K1: each escape that is no rune at either end of a range: it begins none, and as an end it is wrong; in both flavours.
func TestRangesOfNoRune(t *testing.T) {
	for _, esc := range []string{`\d`, `\s`, `\w`, `\D`, `\S`, `\W`} {
		set, _ := classes.Perl(esc[1])
		noRuneAtEnd(t, esc, perlAlone)
		setAtBegin(t, esc, perlAlone, set)
		for _, text := range []string{"[" + esc + "]", "[" + esc + "-a]", "[" + esc + "-b-a]"} {
			holds(t, text, plainAlone, wrongly(api.ErrEscape, 1, 3))
		}
		holds(t, "[!-"+esc+"]", plainAlone, wrongly(api.ErrEscape, 3, 5))
	}
	for esc, name := range map[string]string{`\pL`: "L", `\PL`: "^L", `\p{Lu}`: "Lu", `\P{Lu}`: "^Lu", `\p{^Lu}`: "^Lu", `\P{^Lu}`: "Lu", `\p{Any}`: "Any", `\P{Any}`: "^Any"} {
		set, is := classes.Property(name, false)
		if !is {
			t.Fatal(name)
		}
		noRuneAtEnd(t, esc, flavours())
		setAtBegin(t, esc, flavours(), set)
	}
	for _, esc := range []string{`\A`, `\z`, `\b`, `\B`, `\Q`} {
		noRuneAtEnd(t, esc, perlAlone)
		for _, behind := range []string{"]", "a]", "-a]", "-]", "-" + esc + "]", "[:x:]]", `\`, "", "b-a]", `\E]`} {
			holds(t, "["+esc+behind, perlAlone, wrongly(api.ErrClassRange, 1, 3))
			holds(t, "["+esc+behind, plainAlone, wrongly(api.ErrEscape, 1, 3))
			holds(t, "[x-z"+esc+behind, perlAlone, wrongly(api.ErrClassRange, 4, 6))
		}
		holds(t, "[!-"+esc+"]", plainAlone, wrongly(api.ErrEscape, 3, 5))
	}
}

// noRuneAtEnd: an escape that is no rune, as a range's end.
func noRuneAtEnd(t *testing.T, esc string, perl []api.Flag) {
	t.Helper()
	for _, lo := range []string{"!", "\x00", "é", "-", "[", "]", `\x{0}`, `\n`, "\xff"} {
		text := "[" + lo + "-" + esc
		for _, behind := range []string{"]", "", "b-a]", "-a]"} {
			holds(t, text+behind, perl, wrongly(api.ErrClassRange, 1, len(text)))
		}
	}
}

// setAtBegin: an escape that is a set, where a range would begin: what stands behind it are items of their own.
func setAtBegin(t *testing.T, esc string, perl []api.Flag, set []api.Range) {
	t.Helper()
	for behind, more := range map[string][]api.Range{"": nil, "-": ranges('-', '-'), "-a": ranges('-', '-', 'a', 'a'), "-" + esc: ranges('-', '-'), "--/": ranges('-', '/'), "-a-c": ranges('-', '-', 'a', 'c')} {
		text := "[" + esc + behind + "]"
		holds(t, text, perl, answer{set: sets.Union(set, more), end: len(text)})
	}
}
