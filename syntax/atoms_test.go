package syntax_test

import (
	"fmt"
	"slices"
	"strings"
	"testing"

	"martello/api"
	"martello/classes"
	"martello/scan"
	"martello/tables"
)

// piece is what may stand in a part, and the atoms that it is, with @ for groups' numbers.
type piece struct {
	text  string
	atoms []string
}

func is(text string, atoms ...string) piece { return piece{text, atoms} }

// plainPieces are atoms of each kind in both flavours, perlPieces those in one alone. They hang on neither FlagFold nor others.
func plainPieces() []piece {
	return []piece{
		is("1", "1"), is("é", "#e9"), is("世", "#4e16"), is("\U0010ffff", "#10ffff"), is("\ufffd", "#fffd"), is("\x00", "#0"), is("\n", "#a"), is("]", "#5d"), is("}", "}"), is("{", "{"), is("{}", "{", "}"), is("-", "-"), is(":", ":"),
		is(".", "[0-9 b-10ffff]"), is("^", "at1"), is("$", "at2"), is("[0-2]", "[30-32]"), is("[]]", "[5d-5d]"), is("[^0]", "[0-2f 31-10ffff]"), is("[(]", "[28-28]"), is(`[^\x{0}-\x{10ffff}]`, "none"),
		is("()", "cap@(empty)"), is("(1)", "cap@(1)"), is("(1|(2))", "cap@(alt(1 cap@(2)))"), is("((1)2*)", "cap@(cat(cap@(1) star(2)))"), is("(^)", "cap@(at1)"),
		is(`\n`, "#a"), is(`\*`, "*"), is(`\\`, `\`), is(`\x31`, "1"), is(`\x{4e16}`, "#4e16"), is(`\x{d800}`, "#d800"), is(`\p{Nd}`, "[30-39 660-669]"), is(`\PN`, "[0-2f 3a-b1 b4-b8 ba-bb bf-65f 66a-215f 2189-10ffff]"), is(`\P{Any}`, "none"),
	}
}

func perlPieces() []piece {
	return []piece{
		is(`\d`, "[30-39]"), is(`\A`, "at1"), is(`\z`, "at2"), is(`\b`, "at16"), is(`\B`, "at32"), is("(?:)", "empty"), is("(?:12)", "cat(1 2)"), is("(?:1|2)", "alt(1 2)"), is("(?:1*)", "star(1)"), is("(?:(1)|)", "alt(cap@(1) empty)"), is("(?i:k)", "[4b-4b 6b-6b 212a-212a]"), is("(?s:.)", "[0-10ffff]"), is("(?m:^)", "at4"), is("(?P<x>1)", "cap@:x(1)"), is("(?<y>(?i:s))", "cap@:y([53-53 73-73 17f-17f])"),
		is(`\Q12\E`, "1", "2"), is(`\Q*\E`, "*"), is(`\Q\E`), is("(?i-i)"), is("(?-m)"), is("(?:(?i))", "empty"),
	}
}

// flavour is one, and the pieces that are something in it.
type flavour struct {
	f      api.Flag
	pieces []piece
}

func flavours() []flavour {
	return []flavour{{0, plainPieces()}, {api.FlagPerl, append(plainPieces(), perlPieces()...)}}
}

// other is a piece with other names, that may stand beside those of the same.
func (p piece) other() piece {
	p.text = strings.ReplaceAll(strings.ReplaceAll(p.text, "<x>", "<x2>"), "<y>", "<y2>")
	p.atoms = slices.Clone(p.atoms)
	for i, atom := range p.atoms {
		p.atoms[i] = strings.ReplaceAll(strings.ReplaceAll(atom, ":x(", ":x2("), ":y(", ":y2(")
	}
	return p
}

// TestAtoms: Y1: every kind of atom alone, beside each other one, behind a |, and within a group.
func TestAtoms(t *testing.T) {
	for _, x := range flavours() {
		for _, a := range x.pieces {
			part := join("cat", a.atoms...)
			holds(t, a.text, x.f, tells(numbered(part)))
			holds(t, "("+a.text+")", x.f, tells(numbered("cap@("+part+")")))
			holds(t, a.text+"|", x.f, tells(numbered("alt("+part+" empty)")))
			for _, b := range x.pieces {
				b = b.other()
				both, other := join("cat", slices.Concat(a.atoms, b.atoms)...), join("cat", b.atoms...)
				holds(t, a.text+b.text, x.f, tells(numbered(both)))
				holds(t, a.text+"|"+b.text, x.f, tells(numbered("alt("+part+" "+other+")")))
				holds(t, "("+a.text+b.text+")", x.f, tells(numbered("cap@("+both+")")))
				holds(t, "x"+a.text+"y"+b.text+"z", x.f, tells(numbered(join("cat", slices.Concat([]string{"x"}, a.atoms, []string{"y"}, b.atoms, []string{"z"})...))))
			}
		}
	}
}

// repeats are repeats, without a ? behind them, and how they are written ahead of the ? of a lazy one.
func repeats() map[string]string {
	return map[string]string{"*": "star", "+": "plus", "?": "quest", "{0}": "{0,0}", "{1}": "{1,1}", "{2,}": "{2,-1}", "{0,}": "{0,-1}", "{2,3}": "{2,3}", "{9}": "{9,9}", "{0,0}": "{0,0}", "{0,1}": "{0,1}", "{007,08}": "{7,8}"}
}

// TestAtomsRepeated: Y1: every kind of atom with each repeat behind it, lazy and not, with FlagSwap and without, alone and behind another atom; what is no atom is passed over.
func TestAtomsRepeated(t *testing.T) {
	for _, x := range flavours() {
		for _, a := range x.pieces {
			for again, shown := range repeats() {
				repeated(t, x.f, a, again, shown, false)
				repeated(t, x.f|api.FlagSwap, a, again, shown, true)
			}
		}
	}
}

// repeated holds an atom with a repeat behind it, which is lazy or not without a ? of its own.
func repeated(t *testing.T, f api.Flag, a piece, again, shown string, lazy bool) {
	t.Helper()
	inner := slices.Clone(a.atoms)
	for i, atom := range inner {
		inner[i] = strings.ReplaceAll(atom, "star(", "star"+showLazy(lazy)+"(")
	}
	for _, question := range []bool{false, true} {
		text, end := a.text+again, len(a.text)+len(again)
		if question {
			text += "?"
		}
		if len(inner) == 0 {
			holds(t, text, f, refuses(api.ErrMissing, len(a.text), end))
			continue
		}
		if question && f&api.FlagPerl == 0 {
			holds(t, text, f, refuses(api.ErrNested, len(a.text), end+1))
			continue
		}
		atoms := slices.Clone(inner)
		last := &atoms[len(atoms)-1]
		*last = shown + showLazy(lazy != question) + "(" + *last + ")"
		holds(t, text, f, tells(numbered(join("cat", atoms...))))
		holds(t, "("+text+")", f, tells(numbered("cap@("+join("cat", atoms...)+")")))
		holds(t, "0"+text+"9", f, tells(numbered("cat(0 "+strings.Join(atoms, " ")+" 9)")))
		holds(t, "0|"+text+"|9", f, tells(numbered("alt(0 "+join("cat", atoms...)+" 9)")))
	}
}

// TestRunes: Y1: every rune up to 3000, and some above, by itself: in both flavours, with FlagFold and without; those that are signs mean something else.
func TestRunes(t *testing.T) {
	all := []rune{0xd7ff, 0xe000, 0xfffd, 0xffff, 0x10000, 0x1f600, 0x10ffff}
	for c := rune(0); c < 0x3000; c++ {
		all = append(all, c)
	}
	signs := map[rune]answer{
		'|': tells("alt(empty empty)"), ')': whole(api.ErrParen, ")"), '(': whole(api.ErrParen, "("), '*': refuses(api.ErrMissing, 0, 1), '+': refuses(api.ErrMissing, 0, 1), '?': refuses(api.ErrMissing, 0, 1), '[': refuses(api.ErrBracket, 0, 1), '\\': refuses(api.ErrTrail, 0, 1), '.': tells("[0-9 b-10ffff]"), '^': tells("at1"), '$': tells("at2"),
	}
	for _, c := range all {
		plain, sign := signs[c]
		fold := plain
		if !sign {
			plain, fold = tells(showRune(c)), tells(showRune(c))
			if orbit := tables.Orbit(c); len(orbit) > 1 {
				fold = tells(alike(orbit...))
			}
		}
		for _, f := range []api.Flag{0, api.FlagPerl, api.FlagPerl | api.FlagSwap} {
			holds(t, string(c), f, plain)
			holds(t, string(c), f|api.FlagFold, fold)
		}
	}
}

// TestFold: Y1: runes that have an orbit, with FlagFold, in whatever form they stand; those that have none, and classes.
func TestFold(t *testing.T) {
	for shown, runes := range map[string][]rune{
		"[4b-4b 6b-6b 212a-212a]": {'K', 'k', 0x212a}, "[53-53 73-73 17f-17f]": {'S', 's', 0x17f}, "[c5-c5 e5-e5 212b-212b]": {0xc5, 0xe5, 0x212b}, "[b5-b5 39c-39c 3bc-3bc]": {0xb5, 0x39c, 0x3bc}, "[3a3-3a3 3c2-3c3]": {0x3a3, 0x3c2, 0x3c3}, "[df-df 1e9e-1e9e]": {0xdf, 0x1e9e}, "[ff-ff 178-178]": {0xff, 0x178}, "[41-41 61-61]": {'A', 'a'}, "[5a-5a 7a-7a]": {'Z', 'z'}, "[de-de fe-fe]": {0xde, 0xfe}, "[391-391 3b1-3b1]": {0x391, 0x3b1}, "[42f-42f 44f-44f]": {0x42f, 0x44f}, "1": {'1'}, "_": {'_'}, "#d7": {0xd7}, "#4e16": {0x4e16}, "#130": {0x130}, "@": {'@'},
	} {
		for _, c := range runes {
			for _, f := range sums(api.FlagFold, api.FlagLit|api.FlagSwap) {
				holds(t, string(c), f, tells(shown))
				holds(t, string(c)+"*", f, tells("star("+shown+")"))
				holds(t, "("+string(c)+"|"+string(c)+")", f, tells("cap1(alt("+shown+" "+shown+"))"))
				holds(t, fmt.Sprintf(`\x{%x}`, c), f, tells(shown))
				if f&api.FlagPerl != 0 {
					holds(t, `\Q`+string(c)+"1", f, tells("cat("+shown+" 1)"))
					holds(t, "(?-i)"+string(c), f, tells(showRune(c)))
				}
			}
		}
	}
	each(t, sums(api.FlagFold|api.FlagPerl, api.FlagLit|api.FlagSwap|api.FlagDot), map[string]answer{
		"[k]": tells("[4b-4b 6b-6b 212a-212a]"), "[^k]": tells("[0-4a 4c-6a 6c-2129 212b-10ffff]"), `\w`: tells("[30-39 41-5a 5f-5f 61-7a 17f-17f 212a-212a]"), `\d`: tells("[30-39]"), `\W`: tells(showSet(tables.Fold(ranges(0, 0x2f, 0x3a, 0x40, 0x5b, 0x5e, 0x60, 0x60, 0x7b, 0x10ffff)))), `\p{Lu}`: tells(showSet(tables.Fold(property("Lu")))), `\PL`: tells(showSet(tables.Fold(property("^L")))), `\P{Any}`: tells("none"), `\p{Any}`: tells("[0-10ffff]"), ".": tells("[0-9 b-10ffff]"), "[^[:^lower:]]": tells("none"), `[\x{0}-\x{10ffff}]`: tells("[0-10ffff]"), `\x6B`: tells("[4b-4b 6b-6b 212a-212a]"), `\n`: tells("#a"), `\*`: tells("*"), `\b`: tells("at16"),
	})
	each(t, unfolded(), map[string]answer{"k": tells("k"), `\x{212a}`: tells("#212a"), "[k]": tells("[6b-6b]"), `\p{Cyrillic}`: tells("[400-484 487-52f]")})
}

func property(name string) []api.Range {
	set, _ := classes.Property(name, false)
	return set
}

// TestClasses: Y1: classes, as layer 7 reads them under the flags that stand there; without runes they are none.
func TestClasses(t *testing.T) {
	each(t, unfolded(), map[string]answer{
		"[a-cx]": tells("[61-63 78-78]"), "[]a]": tells("[5d-5d 61-61]"), "[^]a]": tells("[0-5c 5e-60 62-10ffff]"), "[a-]": tells("[2d-2d 61-61]"), "[[:digit:]x]": tells("[30-39 78-78]"), "[é世]": tells("[e9-e9 4e16-4e16]"), "[|]|[)]": tells("alt([7c-7c] [29-29])"), `[^\x{0}-\x{10FFFF}]`: tells("none"), `[\P{Any}]`: tells("none"), `[^\p{Any}]|a`: tells("alt(none a)"), "[a][b]": tells("cat([61-61] [62-62])"), "[.]": tells("[2e-2e]"), "[$^]": tells("[24-24 5e-5e]"),
	})
	each(t, anyPerl(), map[string]answer{`[\d]`: tells("[30-39]"), `[\D\d]`: tells("[0-10ffff]"), `[^\D\d]`: tells("none")})
	each(t, greedyPerl(), map[string]answer{
		"[*]*b": tells("cat(star([2a-2a]) b)"), "[k](?i)[k](?-i:[k])[^k]": tells("cat([6b-6b] [4b-4b 6b-6b 212a-212a] [6b-6b] [0-4a 4c-6a 6c-2129 212b-10ffff])"), "[(?i)]k": tells("cat([28-29 3f-3f 69-69] k)"), `\Q[\E[)]`: tells("cat(#5b [29-29])"),
	})
	each(t, anyPlain(), map[string]answer{`[\d]`: refuses(api.ErrEscape, 1, 3), `a[b\w]`: refuses(api.ErrEscape, 3, 5)})
	each(t, anyFlags(), map[string]answer{
		"[b-a]": refuses(api.ErrClassRange, 1, 4), "a[[:x:]]": refuses(api.ErrClassRange, 2, 7), "[a": refuses(api.ErrBracket, 0, 2), "é[]": refuses(api.ErrBracket, 2, 4), "[": refuses(api.ErrBracket, 0, 1), "([a": refuses(api.ErrBracket, 1, 3), `[\`: refuses(api.ErrTrail, 1, 2), `[\q]`: refuses(api.ErrEscape, 1, 3), `[\p{x}]`: refuses(api.ErrProperty, 1, 6), "[a](b[c": refuses(api.ErrBracket, 5, 7), "[世-é]": refuses(api.ErrClassRange, 1, 7), "[^]": refuses(api.ErrBracket, 0, 3),
	})
}

// TestDots: Y1: dots, ^ and $ under each of the flags, and those of a part.
func TestDots(t *testing.T) {
	for _, f := range anyFlags() {
		dot, begin, end := "[0-9 b-10ffff]", "at1", "at2"
		if f&api.FlagDot != 0 {
			dot = "[0-10ffff]"
		}
		if f&api.FlagMulti != 0 {
			begin, end = "at4", "at8"
		}
		for s, want := range map[string]string{".": dot, "^": begin, "$": end, "^.$": "cat(" + begin + " " + dot + " " + end + ")", "$|.|^": "alt(" + end + " " + dot + " " + begin + ")", "(^)(.)": "cat(cap1(" + begin + ") cap2(" + dot + "))", `\.`: ".", `\^\$`: "cat(^ $)", "[.^$]": "[24-24 2e-2e 5e-5e]", "^^": "cat(" + begin + " " + begin + ")"} {
			holds(t, s, f, tells(want))
		}
		if f&api.FlagPerl != 0 {
			for s, want := range map[string]string{"(?s).": "[0-10ffff]", "(?-s).": "[0-9 b-10ffff]", "(?s:.).": "cat([0-10ffff] " + dot + ")", "(?m)^$": "cat(at4 at8)", "(?-m)^$": "cat(at1 at2)", "(?m:^)^(?-m:$)$": "cat(at4 " + begin + " at2 " + end + ")", `\A`: "at1", `\z`: "at2", `(?m)\A`: "at1", `(?-m)\z`: "at2", `\Q.^$\E`: "cat(. ^ $)"} {
				holds(t, s, f, tells(want))
			}
		}
	}
}

// TestEscapes: Y1: a backslash and every rune of the first ones, in both flavours: an atom as layer 6 tells it, or its error.
func TestEscapes(t *testing.T) {
	for c := rune(0); c < 0x3000; c++ {
		for _, behind := range []string{"", "}", "41}", "{41}", "{Lu}", "L"} {
			for _, f := range []api.Flag{0, api.FlagPerl} {
				text := `\` + string(c) + behind
				esc, end, wrong := scan.Escape(text, 0, f != 0)
				want := answer{zero, wrong}
				atoms := map[api.EscKind]string{api.EscRune: showRune(esc.Rune), api.EscSet: showSet(esc.Set), api.EscAt: fmt.Sprint("at", int(esc.At))}
				switch {
				case wrong.E == api.OK && esc.Kind == api.EscQuote:
					continue // TestQuoted has these
				case wrong.E == api.OK && text[end:] == "{41}": // it is a count here
					want = tells("{41,41}(" + atoms[esc.Kind] + ")")
				case wrong.E == api.OK:
					all := []string{atoms[esc.Kind]}
					for _, c := range text[end:] {
						all = append(all, showRune(c))
					}
					want = tells(join("cat", all...))
				}
				holds(t, text, f, want)
				holds(t, "世"+text, f, want.behind("#4e16", 3))
			}
		}
	}
}

// behind is the answer, if an atom of so many bytes stands ahead of a pattern of one part.
func (a answer) behind(atom string, ahead int) answer {
	if a.wrong.E != api.OK {
		return a.moved(ahead)
	}
	rest, several := strings.CutPrefix(a.tree, "cat(")
	if !several {
		rest += ")"
	}
	return tells("cat(" + atom + " " + rest)
}

// TestEscapesWritten: Y1: escapes of each kind, by themselves.
func TestEscapesWritten(t *testing.T) {
	each(t, anyFlags(), map[string]answer{
		`\a\f\n\r\t\v`: tells("cat(#7 #c #a #d #9 #b)"), `\!\"\#\$\%\&\'\(\)\*\+\,\-\.\/`: tells("cat(! \" #23 $ % & ' #28 #29 * + , - . /)"), `\:\;\<\=\>\?\@`: tells("cat(: ; < = > ? @)"), "\\[\\\\\\]\\^\\_\\`": tells("cat(#5b \\ #5d ^ _ `)"), `\{\|\}\~`: tells("cat({ | } ~)"),
		`\x00`: tells("#0"), `\x5F1`: tells("cat(_ 1)"), `\x{10FFFF}`: tells("#10ffff"), `\x{0000031}`: tells("1"), `\x{d800}`: tells("#d800"),
		`\p{Nd}`: tells("[30-39 660-669]"), `\P{^Nd}`: tells("[30-39 660-669]"), `\p{Han}`: tells("[4e00-9fff]"), `\PN1`: tells("cat([0-2f 3a-b1 b4-b8 ba-bb bf-65f 66a-215f 2189-10ffff] 1)"), `\pZ}`: tells("cat([20-20 a0-a0 2000-200a 2028-2029 202f-202f 3000-3000] })"), `\P{Any}`: tells("none"), `\p{^Any}`: tells("none"), `\p{Any}`: tells("[0-10ffff]"),
		`\`: refuses(api.ErrTrail, 0, 1), `a\`: refuses(api.ErrTrail, 1, 2), `\\\`: refuses(api.ErrTrail, 2, 3), `(\`: refuses(api.ErrTrail, 1, 2), `\q`: refuses(api.ErrEscape, 0, 2), `a\é`: refuses(api.ErrEscape, 1, 4), `\E`: refuses(api.ErrEscape, 0, 2), `\1`: refuses(api.ErrEscape, 0, 2), `\x`: refuses(api.ErrEscape, 0, 2), `\x4`: refuses(api.ErrEscape, 0, 2), `\x{110000}`: refuses(api.ErrEscape, 0, 2), `\x{}`: refuses(api.ErrEscape, 0, 2), `\p`: refuses(api.ErrEscape, 0, 2), `1\p{Lu`: refuses(api.ErrEscape, 1, 3), `\p{lu}`: refuses(api.ErrProperty, 0, 6), `1\pé`: refuses(api.ErrProperty, 1, 5), `\P{}`: refuses(api.ErrProperty, 0, 4), `\C`: refuses(api.ErrEscape, 0, 2), `\Z`: refuses(api.ErrEscape, 0, 2),
	})
	each(t, unfolded(), map[string]answer{`\x{e9}`: tells("#e9"), `\x41\x{6b}`: tells("cat(A k)"), `\x411`: tells("cat(A 1)"), `\xfF`: tells("#ff"), `\x{0000041}`: tells("A")})
	each(t, sums(api.FlagFold, api.FlagLit), map[string]answer{`\x{e9}`: tells("[c9-c9 e9-e9]"), `\x411`: tells("cat([41-41 61-61] 1)"), `\xfF`: tells("[ff-ff 178-178]"), `\x{0000041}`: tells("[41-41 61-61]")})
	each(t, sums(api.FlagPerl, api.FlagLit|api.FlagFold), map[string]answer{
		`\d\D`: tells("cat([30-39] [0-2f 3a-10ffff])"), `\s`: tells("[9-a c-d 20-20]"), `\S`: tells("[0-8 b-b e-1f 21-10ffff]"), `\w`: tells("[30-39 41-5a 5f-5f 61-7a]"), `\W`: tells("[0-2f 3a-40 5b-5e 60-60 7b-10ffff]"), `\Aa\z`: tells("cat(at1 a at2)"), `\b\B`: tells("cat(at16 at32)"),
	})
	for _, c := range "dswDSWAzbBQ" {
		for _, f := range anyPlain() {
			holds(t, `a\`+string(c), f, refuses(api.ErrEscape, 1, 3))
		}
	}
}
