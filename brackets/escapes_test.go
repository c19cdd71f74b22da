package brackets_test

import (
	"strings"
	"testing"

	"martello/api"
	"martello/classes"
	"martello/scan"
	"martello/sets"
)

// signs are those that a backslash makes a rune.
const signs = "!\"#$%&'()*+,-./" + ":;<=>?@" + "[\\]^_`" + "{|}~"

// runeEscapes are escapes of one rune, in both flavours.
func runeEscapes() map[string]rune {
	all := map[string]rune{
		`\a`: 7, `\f`: 12, `\n`: 10, `\r`: 13, `\t`: 9, `\v`: 11, `\x41`: 'A', `\x00`: 0, `\xfF`: 0xff, `\x5d`: ']', `\x2d`: '-', `\x5B`: '[', `\x{5E}`: '^', `\x{41}`: 'A', `\x{0}`: 0, `\x{10ffff}`: 0x10ffff, `\x{10FFFF}`: 0x10ffff, `\x{D800}`: 0xd800, `\x{00000041}`: 'A', `\x{FFFD}`: 0xfffd, `\x{4e16}`: 0x4e16,
	}
	for _, c := range signs {
		all[`\`+string(c)] = c
	}
	return all
}

// TestRuneEscapes: K1: each escape of a rune: alone, beside others, as each end of a range; whatever it stands for, it is that rune alone.
func TestRuneEscapes(t *testing.T) {
	for esc, c := range runeEscapes() {
		alone, long := ranges(c, c), len(esc)
		holds(t, "["+esc+"]", flavours(), answer{set: alone, end: long + 2})
		holds(t, "["+esc+esc+"]", flavours(), answer{set: alone, end: 2*long + 2})
		holds(t, "[é"+esc+"z]", flavours(), answer{set: sets.Norm(append(ranges('z', 'z', 'é', 'é'), alone...)), end: long + 5})
		holds(t, "["+esc+"-"+esc+"]", flavours(), answer{set: alone, end: 2*long + 3})
		holds(t, "["+esc+"-\\x{10FFFF}]", flavours(), answer{set: ranges(c, 0x10ffff), end: long + 13})
		holds(t, "[\\x00-"+esc+"]", flavours(), answer{set: ranges(0, c), end: long + 7})
		holds(t, "["+esc+"-]", flavours(), answer{set: sets.Union(ranges('-', '-'), alone), end: long + 3})
		holds(t, "["+esc, flavours(), wrongly(api.ErrBracket, 0, long+1))
		if c > 0 {
			holds(t, "["+esc+"-\x00]", flavours(), wrongly(api.ErrClassRange, 1, long+3))
		}
		if c < api.MaxRune {
			holds(t, "[\\x{10FFFF}-"+esc+"]", flavours(), wrongly(api.ErrClassRange, 1, long+12))
		}
	}
}

// TestSetEscapes: K1: each escape of a set, a property's too, alone and beside runes; without runes it is nothing.
func TestSetEscapes(t *testing.T) {
	type setEscape struct {
		perl []api.Flag
		set  []api.Range
	}
	all := map[string]setEscape{}
	for _, c := range "dswDSW" {
		set, _ := classes.Perl(byte(c))
		all[`\`+string(c)] = setEscape{perlAlone, set}
	}
	for _, name := range strings.Fields("Lu Ll L Nd N P S Z Cc Latin Greek Cyrillic Han Any ^Lu ^L ^P ^Han ^Any") {
		set, is := classes.Property(name, false)
		if !is {
			t.Fatal(name)
		}
		all[`\p{`+name+`}`], all[`\P{`+name+`}`] = setEscape{flavours(), set}, setEscape{flavours(), complement(set)}
		if len(name) == 1 {
			all[`\p`+name], all[`\P`+name] = setEscape{flavours(), set}, setEscape{flavours(), complement(set)}
		}
	}
	for esc, e := range all {
		long := len(esc)
		holds(t, "["+esc+"]", e.perl, answer{set: e.set, end: long + 2})
		holds(t, "["+esc+esc+"]", e.perl, answer{set: e.set, end: 2*long + 2})
		holds(t, "[k"+esc+"]", e.perl, answer{set: sets.Union(e.set, ranges('k', 'k')), end: long + 3})
		holds(t, "["+esc+"0-\\x{33}]", e.perl, answer{set: sets.Union(e.set, ranges('0', '3')), end: long + 10})
		holds(t, "["+esc+"[:upper:]]", e.perl, answer{set: sets.Union(e.set, ranges('A', 'Z')), end: long + 11})
		holds(t, "["+esc, e.perl, wrongly(api.ErrBracket, 0, long+1))
	}
	for text, want := range map[string]answer{
		`[\d]`: has(4, '0', '9'), `[\D]`: has(4, 0, '/', ':', 0x10ffff), `[\s]`: has(4, 9, 10, 12, 13, ' ', ' '), `[\w]`: has(4, '0', '9', 'A', 'Z', '_', '_', 'a', 'z'), `[\W_]`: has(5, 0, '/', ':', '@', '[', '`', '{', 0x10ffff), `[\d\D]`: has(6, 0, 0x10ffff), `[[:digit:]\w]`: has(13, '0', '9', 'A', 'Z', '_', '_', 'a', 'z'),
		`[\p{Nd}]`: has(8, '0', '9', 0x660, 0x669), `[\P{Any}]`: has(9), `[\p{^Any}]`: has(10), `[\P{Any}a]`: has(10, 'a', 'a'), `[\pNd]`: {set: sets.Union(property("N"), ranges('d', 'd')), end: 6}, `[\pZ}]`: {set: sets.Union(property("Z"), ranges('}', '}')), end: 6},
	} {
		holds(t, text, perlAlone, want)
	}
}

func property(name string) []api.Range {
	set, _ := classes.Property(name, false)
	return set
}

// TestEscapesErrors: K1: each error of an escape, with its bytes: as the first item, as a later one, as the end of a range.
func TestEscapesErrors(t *testing.T) {
	for esc, want := range map[string]api.Wrong{
		`\`: {E: api.ErrTrail, To: 1}, `\q`: {E: api.ErrEscape, To: 2}, `\q]`: {E: api.ErrEscape, To: 2}, `\0]`: {E: api.ErrEscape, To: 2}, `\é]`: {E: api.ErrEscape, To: 3}, `\世`: {E: api.ErrEscape, To: 4}, "\\\xff]": {E: api.ErrEscape, To: 2}, "\\\n]": {E: api.ErrEscape, To: 2}, `\E]`: {E: api.ErrEscape, To: 2}, `\Z]`: {E: api.ErrEscape, To: 2}, `\C]`: {E: api.ErrEscape, To: 2},
		`\x`: {E: api.ErrEscape, To: 2}, `\x]`: {E: api.ErrEscape, To: 2}, `\x4`: {E: api.ErrEscape, To: 2}, `\x4]`: {E: api.ErrEscape, To: 2}, `\xg0]`: {E: api.ErrEscape, To: 2}, `\x{`: {E: api.ErrEscape, To: 2}, `\x{}]`: {E: api.ErrEscape, To: 2}, `\x{41]`: {E: api.ErrEscape, To: 2}, `\x{110000}]`: {E: api.ErrEscape, To: 2}, `\x{4G}]`: {E: api.ErrEscape, To: 2},
		`\p`: {E: api.ErrEscape, To: 2}, `\p{`: {E: api.ErrEscape, To: 2}, `\p{Lu]`: {E: api.ErrEscape, To: 2}, `\P{Lu`: {E: api.ErrEscape, To: 2}, `\p]`: {E: api.ErrProperty, To: 3}, `\px]`: {E: api.ErrProperty, To: 3}, `\pé]`: {E: api.ErrProperty, To: 4}, `\P\]`: {E: api.ErrProperty, To: 3}, `\p{}]`: {E: api.ErrProperty, To: 4}, `\p{x}]`: {E: api.ErrProperty, To: 5}, `\P{lu}]`: {E: api.ErrProperty, To: 6}, `\p{^^L}]`: {E: api.ErrProperty, To: 7}, `\p{L]}`: {E: api.ErrProperty, To: 6}, "\\p{\xff}]": {E: api.ErrProperty, To: 5}, `\p-]`: {E: api.ErrProperty, To: 3},
	} {
		for _, ahead := range []string{"", "a", "é", "]", "-", "a-z", "[:digit:]", `\n`, `\pL`, `\P{Any}`, "!-", `\x{0}-`, "\xff", "--", "---", "[", "[:", "[:digit"} {
			begin := 1 + len(ahead)
			holds(t, "["+ahead+esc, flavours(), wrongly(want.E, begin, begin+want.To))
		}
	}
	for _, c := range "dswDSWAzbBQ" {
		for _, ahead := range []string{"", "a", "!-", "é"} {
			begin := 1 + len(ahead)
			holds(t, "["+ahead+`\`+string(c)+"]", plainAlone, wrongly(api.ErrEscape, begin, begin+2))
		}
	}
}

// TestEscapesAll: K1: a backslash and each rune of the first ones, and each byte that is no UTF-8, in a class, in both flavours, is what it is without.
func TestEscapesAll(t *testing.T) {
	var all []string
	for c := rune(0); c < 0x3000; c++ {
		all = append(all, string(c))
	}
	for b := 0x80; b <= 0xff; b++ {
		all = append(all, string([]byte{byte(b)}))
	}
	for _, c := range all {
		for _, f := range flavours() {
			text := `[\` + c + `}a]`
			esc, end, wrong := scan.Escape(text, 1, f == api.FlagPerl)
			want := answer{wrong: wrong}
			switch esc.Kind {
			case api.EscRune:
				esc.Set = ranges(esc.Rune, esc.Rune)
			case api.EscAt, api.EscQuote:
				want = wrongly(api.ErrClassRange, 1, end)
			}
			if want.wrong.E == api.OK {
				want = answer{set: sets.Norm(append(ranges('}', '}', 'a', 'a'), esc.Set...)), end: len(text)}
			}
			is(t, text, 0, f, want)
			is(t, "[^"+text[1:], 0, f, want.turned())
			is(t, text, 0, f|api.FlagFold, want.folded())
		}
	}
}
