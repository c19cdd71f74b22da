package scan_test

import (
	"slices"
	"strconv"
	"strings"
	"testing"
	"unicode/utf8"

	"martello/api"
	"martello/classes"
	"martello/samples"
)

// flavours are both.
var flavours = []bool{false, true}

// escapes holds Escape of a text, behind each of what may stand ahead, against what it is at its beginning.
func escapes(t *testing.T, text string, perl bool, want escaped) {
	t.Helper()
	for _, ahead := range aheads() {
		at, moved := len(ahead), want
		moved.end, moved.wrong = movedBy(at, want.end, want.wrong)
		if got := askEscape(ahead+text, at, perl); !got.same(moved) {
			t.Errorf("Escape(%.80q, %d, %v): %x; not %x", ahead+text, at, perl, got, moved)
		}
	}
}

// isRune, isSet, isAt are what an escape may be, and the byte behind it.
func isRune(c rune, end int) escaped {
	return escaped{esc: api.Esc{Kind: api.EscRune, Rune: c}, end: end}
}

func isSet(set []api.Range, end int) escaped {
	return escaped{esc: api.Esc{Kind: api.EscSet, Set: set}, end: end}
}

func isAt(at api.At, end int) escaped {
	return escaped{esc: api.Esc{Kind: api.EscAt, At: at}, end: end}
}

// property is a set of layer 4 that there is.
func property(t *testing.T, name string, not bool) []api.Range {
	t.Helper()
	set, is := classes.Property(name, not)
	if !is {
		t.Fatalf("%s: no property", name)
	}
	return set
}

// TestEscapeRunes: C1: a backslash and every rune that there is, and every byte that is no UTF-8, in both flavours.
func TestEscapeRunes(t *testing.T) {
	m := newEscapeModel()
	if len(m.plain) != 32+6 || len(m.perl) != 11 {
		t.Fatalf("%d, %d escapes", len(m.plain), len(m.perl))
	}
	all := make([]string, 0, 0x110080)
	for c := rune(0); c <= 0x10ffff; c++ {
		if utf8.ValidRune(c) {
			all = append(all, string(c))
		}
	}
	for b := 0x80; b <= 0xff; b++ {
		all = append(all, string([]byte{byte(b)}))
	}
	for _, first := range all {
		for _, perl := range flavours {
			c, _ := utf8.DecodeRuneInString(first)
			want := wrongly(api.ErrEscape, 0, 1+len(first))
			if esc, is := m.plain[c]; is {
				want = escaped{esc: esc, end: 2}
			} else if esc, is := m.perl[c]; is && perl {
				want = escaped{esc: esc, end: 2}
			}
			if got := askEscape(`\`+first, 0, perl); !got.same(want) {
				t.Fatalf("Escape(%q, 0, %v): %x; not %x", `\`+first, perl, got, want)
			}
		}
	}
}

// TestEscapeSigns: C1: the ends of the four rows of signs, and their neighbours, and a sign that looks like one.
func TestEscapeSigns(t *testing.T) {
	for _, c := range "\x21\x2f\x3a\x40\x5b\x60\x7b\x7e^-_\\]" {
		for _, perl := range flavours {
			escapes(t, `\`+string(c), perl, isRune(c, 2))
			escapes(t, `\`+string(c)+"{1}", perl, isRune(c, 2))
		}
	}
	for _, c := range "\x00\x1f\x20\x30\x39GZEe\x7f\u0080\u00a1\uff05" {
		for _, perl := range flavours {
			escapes(t, `\`+string(c)+"z", perl, wrongly(api.ErrEscape, 0, 1+utf8.RuneLen(c)))
		}
	}
}

// TestEscapeLetters: C1: each letter that has a meaning, written out; and what only ends like one.
func TestEscapeLetters(t *testing.T) {
	for _, perl := range flavours {
		for c, want := range map[rune]rune{'a': 7, 'f': 12, 'n': 10, 'r': 13, 't': 9, 'v': 11} {
			escapes(t, `\`+string(c), perl, isRune(want, 2))
			escapes(t, `\`+string(c)+"{41}", perl, isRune(want, 2))
		}
		for _, c := range "aptxzdAQ" {
			for _, more := range []rune{0x100, 0x400, 0x10000, 0x100000} {
				text := `\` + string(c+more)
				escapes(t, text, perl, wrongly(api.ErrEscape, 0, len(text)))
			}
		}
		for _, c := range "cegGhijklmoquyCEFGHIJKLMNORTUVXYZ0123456789" {
			escapes(t, `\`+string(c)+"41", perl, wrongly(api.ErrEscape, 0, 2))
		}
	}
	for c, want := range map[rune]escaped{
		'd': isSet(ranges(0x30, 0x39), 2), 's': isSet(ranges(9, 0xa, 0xc, 0xd, 0x20, 0x20), 2), 'w': isSet(ranges(0x30, 0x39, 0x41, 0x5a, 0x5f, 0x5f, 0x61, 0x7a), 2),
		'D': isSet(ranges(0, 0x2f, 0x3a, 0x10ffff), 2), 'S': isSet(ranges(0, 8, 0xb, 0xb, 0xe, 0x1f, 0x21, 0x10ffff), 2), 'W': isSet(ranges(0, 0x2f, 0x3a, 0x40, 0x5b, 0x5e, 0x60, 0x60, 0x7b, 0x10ffff), 2),
		'A': isAt(api.AtBegin, 2), 'z': isAt(api.AtEnd, 2), 'b': isAt(api.AtWord, 2), 'B': isAt(api.AtNoWord, 2), 'Q': {esc: api.Esc{Kind: api.EscQuote}, end: 2},
	} {
		for _, behind := range []string{"", "d", "{1}", `\`, "\xff"} {
			escapes(t, `\`+string(c)+behind, true, want)
			escapes(t, `\`+string(c)+behind, false, wrongly(api.ErrEscape, 0, 2))
		}
	}
}

// TestEscapeTwoDigits: C1: \x and every two bytes behind it.
func TestEscapeTwoDigits(t *testing.T) {
	for a := range 256 {
		for b := range 256 {
			pair := string([]byte{byte(a), byte(b)})
			want := wrongly(api.ErrEscape, 0, 2)
			if n, err := strconv.ParseUint(pair, 16, 32); err == nil {
				want = isRune(rune(n), 4)
			}
			for _, text := range []string{`\x` + pair, `\x` + pair + "1", `\x` + pair + "é"} {
				if got := askEscape(text, 0, a%2 == 0); !got.same(want) {
					t.Fatalf("%q: %x; not %x", text, got, want)
				}
			}
		}
	}
}

// TestEscapeHex: C1: \x, written out: numbers, and what is none; an error ends behind the x.
func TestEscapeHex(t *testing.T) {
	noughts := strings.Repeat("0", 500)
	for text, want := range map[string]escaped{
		`\x41`: isRune('A', 4), `\x411`: isRune('A', 4), `\x00`: isRune(0, 4), `\xfF`: isRune(0xff, 4), `\xaB`: isRune(0xab, 4), `\x7E}`: isRune('~', 4),
		`\x{0}`: isRune(0, 5), `\x{41}b`: isRune('A', 6), `\x{a}`: isRune(10, 5), `\x{A}`: isRune(10, 5), `\x{aBcD}`: isRune(0xabcd, 8), `\x{D800}`: isRune(0xd800, 8), `\x{dfff}`: isRune(0xdfff, 8), `\x{FFFD}`: isRune(0xfffd, 8), `\x{FFFFF}`: isRune(0xfffff, 9),
		`\x{10FFFF}`: isRune(0x10ffff, 10), `\x{10ffff}}`: isRune(0x10ffff, 10), `\x{0000000041}`: isRune('A', 14), `\x{` + noughts + `}`: isRune(0, 504), `\x{` + noughts + `10FFFF}`: isRune(0x10ffff, 510), `\x{00110000`: wrongly(api.ErrEscape, 0, 2),
	} {
		for _, perl := range flavours {
			escapes(t, text, perl, want)
		}
	}
	for _, body := range []string{
		"", "4", "G1", "4G", "4é", "é4", "\xff", "4\xff", " 41", "+4", "-4", "0x", "_4", "4_", "x41", "\\x41", "p{L}",
		"{", "{}", "{}41}", "{41", "{4", "{4G}", "{G4}", "{41é}", "{41\xff}", "{ 41}", "{41 }", "{+41}", "{-1}", "{0x41}", "{4_1}", "{4,1}", "{41{}", "{{41}}", "{41\\}", "{41)", "}",
		"{110000}", "{110001}", "{11FFFF}", "{200000}", "{FFFFFF}", "{1000041}", "{10000041}", "{80000041}", "{FFFFFFFF}", "{100000041}", "{7FFFFFFFFFFFFFFF}", "{8000000000000041}", "{FFFFFFFFFFFFFFFF}", "{10000000000000041}", "{10000000000000000000000000000000000000000041}",
		"{" + noughts + "110000}", "{" + strings.Repeat("F", 5000) + "}", "{1" + noughts + "41}", "{" + noughts, "{" + strings.Repeat("10FFFF", 100) + "}",
	} {
		for _, perl := range flavours {
			escapes(t, `\x`+body, perl, wrongly(api.ErrEscape, 0, 2))
		}
	}
}

// TestEscapeNumbers: P6.2: the \x{..} of every rune is read as it, in great and small letters, with noughts ahead; behind the last one there is none.
func TestEscapeNumbers(t *testing.T) {
	for c := int64(0); c <= 0x110100; c++ {
		small := strconv.FormatInt(c, 16)
		for _, digits := range []string{small, strings.ToUpper(small), "00" + small} {
			text, want := `\x{`+digits+`}`, wrongly(api.ErrEscape, 0, 2)
			if c <= 0x10ffff {
				want = isRune(rune(c), len(text))
			}
			if got := askEscape(text+"0", 0, c%2 == 0); !got.same(want) {
				t.Fatalf("%s: %x; not %x", text, got, want)
			}
		}
	}
}

// TestEscapeProperty: C1: \p and \P, with every rune, and with what stands between braces.
func TestEscapeProperty(t *testing.T) {
	for _, name := range strings.Fields("Lu Ll L Nd N P S Z Cc Latin Greek Cyrillic Han Any ^Lu ^Ll ^L ^Nd ^N ^P ^S ^Z ^Cc ^Latin ^Greek ^Cyrillic ^Han ^Any") {
		for _, perl := range flavours {
			small, great := property(t, name, false), property(t, name, true)
			escapes(t, `\p{`+name+`}`, perl, isSet(small, len(name)+4))
			escapes(t, `\P{`+name+`}`, perl, isSet(great, len(name)+4))
			escapes(t, `\p{`+name+`}}é`, perl, isSet(small, len(name)+4))
			if len(name) == 1 {
				escapes(t, `\p`+name, perl, isSet(small, 3))
				escapes(t, `\P`+name, perl, isSet(great, 3))
				escapes(t, `\p`+name+`u}`, perl, isSet(small, 3))
			}
			for _, text := range []string{`\p{` + name, `\P{` + name, `\p{` + name + `{`, `\p{` + name + `\`} {
				escapes(t, text, perl, wrongly(api.ErrEscape, 0, 2))
			}
		}
	}
	for c := rune(0); c < 0x3000; c++ {
		text := `\p` + string(c)
		want := wrongly(api.ErrProperty, 0, len(text))
		if set, is := classes.Property(string(c), false); is {
			want = isSet(set, 3)
		} else if c == '{' {
			want = wrongly(api.ErrEscape, 0, 2)
		}
		if got := askEscape(text, 0, c%2 == 0); !got.same(want) {
			t.Errorf("%q: %x; not %x", text, got, want)
		}
	}
}

// TestEscapePropertyWritten: C1: sets by numbers, and where a property that there is not ends.
func TestEscapePropertyWritten(t *testing.T) {
	everything, digits := ranges(0, 0x10ffff), ranges(0x30, 0x39, 0x660, 0x669)
	for text, want := range map[string]escaped{
		`\p{Nd}`: isSet(digits, 6), `\P{^Nd}`: isSet(digits, 7), `\P{Nd}`: isSet(ranges(0, 0x2f, 0x3a, 0x65f, 0x66a, 0x10ffff), 6), `\p{^Cc}`: isSet(ranges(0x20, 0x7e, 0xa0, 0x10ffff), 7),
		`\p{Any}`: isSet(everything, 7), `\P{Any}`: isSet(nil, 7), `\p{^Any}`: isSet(nil, 8), `\P{^Any}`: isSet(everything, 8),
		`\pLu`: isSet(property(t, "L", false), 3), `\p{Lu}`: isSet(property(t, "Lu", false), 6),
		`\p`: wrongly(api.ErrEscape, 0, 2), `\P`: wrongly(api.ErrEscape, 0, 2), `\p{`: wrongly(api.ErrEscape, 0, 2), `\P{`: wrongly(api.ErrEscape, 0, 2), `\p{{`: wrongly(api.ErrEscape, 0, 2), `\p{Lu]`: wrongly(api.ErrEscape, 0, 2),
		`\p{}`: wrongly(api.ErrProperty, 0, 4), `\P{}}`: wrongly(api.ErrProperty, 0, 4), `\p}`: wrongly(api.ErrProperty, 0, 3), `\p\`: wrongly(api.ErrProperty, 0, 3), `\p^Lu`: wrongly(api.ErrProperty, 0, 3), `\p{x}`: wrongly(api.ErrProperty, 0, 5), `\p{^}`: wrongly(api.ErrProperty, 0, 5), `\p{^^L}`: wrongly(api.ErrProperty, 0, 7),
		`\pxL`: wrongly(api.ErrProperty, 0, 3), `\pé`: wrongly(api.ErrProperty, 0, 4), `\p世}`: wrongly(api.ErrProperty, 0, 5), `\P😀`: wrongly(api.ErrProperty, 0, 6), "\\p\xff": wrongly(api.ErrProperty, 0, 3), "\\P\xe4\xb8": wrongly(api.ErrProperty, 0, 3), "\\p\xff\xff": wrongly(api.ErrProperty, 0, 3), "\\p\n": wrongly(api.ErrProperty, 0, 3),
		`\p{lu}`: wrongly(api.ErrProperty, 0, 6), `\p{ Lu}`: wrongly(api.ErrProperty, 0, 7), `\p{Lu }`: wrongly(api.ErrProperty, 0, 7), `\p{é}`: wrongly(api.ErrProperty, 0, 6), "\\p{\xff}": wrongly(api.ErrProperty, 0, 5), "\\p{L\n}L}": wrongly(api.ErrProperty, 0, 6), `\p{{L}}`: wrongly(api.ErrProperty, 0, 6), `\p{\p{L}`: wrongly(api.ErrProperty, 0, 8), `\p{[:L}`: wrongly(api.ErrProperty, 0, 7),
	} {
		for _, perl := range flavours {
			escapes(t, text, perl, want)
		}
	}
	for _, n := range []int{1, 100, 65536} {
		long := strings.Repeat("L", n) + "u}"
		escapes(t, `\p{L`+long, true, wrongly(api.ErrProperty, 0, n+6))
		escapes(t, `\p{L`+long[:n+1], false, wrongly(api.ErrEscape, 0, 2))
	}
}

// TestEscapeNone: C1: a backslash at the end, and places at which none stands, that behind the text among them.
func TestEscapeNone(t *testing.T) {
	for _, perl := range flavours {
		escapes(t, `\`, perl, wrongly(api.ErrTrail, 0, 1))
		escapes(t, `\\`, perl, isRune('\\', 2))
		escapes(t, `\\\`, perl, isRune('\\', 2))
		escapes(t, "", perl, wrongly(api.ErrArg, 0, 0))
		for _, text := range []string{"a", `a\d`, "é", "\xff", "/d", `＼d`, "\n", "x41", "{", "\x00"} {
			escapes(t, text, perl, wrongly(api.ErrArg, 0, 0))
		}
	}
}

// TestEscapeShort: C1 and P6.2: every short text, at each of its places, in both flavours, against the model; and what is taken is the same if it stands alone.
func TestEscapeShort(t *testing.T) {
	pieces := []string{`\`, "x", "p", "P", "{", "}", "4", "F", "g", "L", "u", "^", "d", "Q", "é", "\xff"}
	all := samples.Texts(4, pieces...)
	for _, ahead := range []string{`\`, `\x{`, `\p{`, `é\P`} {
		for _, s := range samples.Texts(4, pieces...) {
			all = append(all, ahead+s)
		}
	}
	for _, s := range samples.Texts(6, "0", "1", "f", "}") {
		all = append(all, `\x{`+s, `\x{10F`+s)
	}
	m := newEscapeModel()
	for _, s := range all {
		for at := range len(s) + 1 {
			for _, perl := range flavours {
				shortEscape(t, m, s, at, perl)
			}
		}
		if t.Failed() {
			return
		}
	}
}

// shortEscape holds Escape against the model, and against P6.2.
func shortEscape(t *testing.T, m escapeModel, s string, at int, perl bool) {
	t.Helper()
	got, want := askEscape(s, at, perl), m.of(s, at, perl)
	if !got.same(want) {
		t.Errorf("Escape(%q, %d, %v): %x; not %x", s, at, perl, got, want)
		return
	}
	if got.wrong.E != api.OK {
		if got.wrong.From != at || got.wrong.To < at || got.wrong.To > len(s) {
			t.Errorf("Escape(%q, %d, %v): %+v", s, at, perl, got.wrong)
		}
		return
	}
	if got.end < at+2 || got.end > len(s) {
		t.Errorf("Escape(%q, %d, %v): ends at %d", s, at, perl, got.end)
		return
	}
	alone := askEscape(s[at:got.end], 0, perl)
	if alone.end += at; !alone.same(got) {
		t.Errorf("Escape(%q, %d, %v): %x; alone %x", s, at, perl, got, alone)
	}
}

// TestEscapeFields: rule P2: what a Kind does not name is zero, and with an error all is.
func TestEscapeFields(t *testing.T) {
	for _, s := range samples.Texts(4, `\`, "x", "p", "{", "}", "4", "L", "d", "z", "Q", "n", ".") {
		for _, perl := range flavours {
			got := askEscape(s, 0, perl)
			kinds := map[api.EscKind]api.Esc{api.EscRune: {Rune: got.esc.Rune}, api.EscSet: {Set: got.esc.Set}, api.EscAt: {At: got.esc.At}, api.EscQuote: {}}
			want, is := kinds[got.esc.Kind]
			want.Kind = got.esc.Kind
			if is != (got.wrong.E == api.OK) || !got.same(escaped{want, got.end, got.wrong}) {
				t.Errorf("Escape(%q, 0, %v): %x", s, perl, got)
			}
			zeroBeside(t, s, got.same(escaped{wrong: got.wrong}), got.wrong)
		}
	}
}

// TestEscapeMemory: rule P3: a set that was told may be changed, and its spare room: what is told behind that is as before.
func TestEscapeMemory(t *testing.T) {
	for _, text := range []string{`\d`, `\s`, `\w`, `\D`, `\S`, `\W`, `\pL`, `\PL`, `\p{Lu}`, `\P{Lu}`, `\p{^Lu}`, `\p{Any}`, `\P{Any}`, `\p{^Any}`, `\pZ`} {
		first, second := askEscape(text, 0, true), askEscape(text, 0, true)
		was := slices.Clone(first.esc.Set)
		room := first.esc.Set[:cap(first.esc.Set)]
		for i := range room {
			room[i] = api.Range{Lo: 77, Hi: 78}
		}
		third := askEscape(text, 0, true)
		if !slices.Equal(second.esc.Set, was) || !slices.Equal(third.esc.Set, was) {
			t.Errorf("%s: %x, %x; not %x, when another answer was changed", text, second, third, was)
		}
	}
}
