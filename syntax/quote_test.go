package syntax_test

import (
	"fmt"
	"strings"
	"testing"
	"unicode/utf8"

	"martello/api"
	"martello/samples"
	"martello/syntax"
)

// quotedBytes are those that Quote puts a backslash ahead of.
const quotedBytes = `\.+*?()|[]{}^$`

// TestQuote: Y2: every byte, alone and beside each other one.
func TestQuote(t *testing.T) {
	quote := func(b byte) string {
		if strings.Contains(quotedBytes, string([]byte{b})) {
			return string([]byte{'\\', b})
		}
		return string([]byte{b})
	}
	for a := range 256 {
		for b := range 256 {
			s := string([]byte{byte(a), byte(b)})
			if got, want := syntax.Quote(s), quote(s[0])+quote(s[1]); got != want {
				t.Fatalf("Quote(%q): %q; not %q", s, got, want)
			}
		}
		if s := string([]byte{byte(a)}); syntax.Quote(s) != quote(s[0]) {
			t.Fatalf("Quote(%q): %q", s, syntax.Quote(s))
		}
	}
	for s, want := range map[string]string{
		"": "", "a": "a", "a.b": `a\.b`, `\`: `\\`, `\.+*?()|[]{}^$`: `\\\.\+\*\?\(\)\|\[\]\{\}\^\$`, `\Q*\E`: `\\Q\*\\E`, "a-b": "a-b", "é*世": `é\*世`, "\xff.\xc3": "\xff\\.\xc3", "\xe4\xb8": "\xe4\xb8", "(?i)": `\(\?i\)`, "{1,2}": `\{1,2\}`, " #!\"%&',-/:;<=>@_`~\n\x00\x7f": " #!\"%&',-/:;<=>@_`~\n\x00\x7f", "．＊": "．＊",
		strings.Repeat("(", 100000): strings.Repeat(`\(`, 100000), strings.Repeat("\xff", 100000): strings.Repeat("\xff", 100000),
	} {
		if got := syntax.Quote(s); got != want {
			t.Errorf("Quote(%.80q): %.80q; not %.80q", s, got, want)
		}
	}
}

// quotable are texts, UTF-8 and not: every rune of the first ones, every byte, short ones of signs, long ones.
func quotable() []string {
	all := samples.Texts(4, "k", "é", `\`, "*", "(", ")", "{", "2", "}", "[", "|")
	for c := rune(0); c < 0x3000; c++ {
		all = append(all, string(c), "1"+string(c)+"k")
	}
	for b := range 256 {
		all = append(all, string([]byte{byte(b)}), string([]byte{'k', byte(b), '*'}))
	}
	return append(all, `\Q`, `\E`, `\Qk\E`, "(?i)k", "(?P<x>k)", `\pL\d\x41`, "a**", "^.$", "[^k-z]", "世界\U0001f600", "\xe4\xb8", "k\xff", "\xff*", "\xed\xa0\x80", quotedBytes, strings.Repeat("*", 512), strings.Repeat("k", 1024), strings.Repeat("世(", 204))
}

// TestQuoteParsed: P8.3: Parse of Quote of a text, in both flavours, with FlagFold and without, on whatever other flags, is the text's tree with FlagLit.
func TestQuoteParsed(t *testing.T) {
	for i, s := range quotable() {
		quoted := syntax.Quote(s)
		for _, perl := range []api.Flag{0, api.FlagPerl} {
			for _, fold := range []api.Flag{0, api.FlagFold} {
				other := []api.Flag{0, api.FlagMulti, api.FlagDot, api.FlagSwap, 28}[i%5]
				text := ask(s, api.FlagLit|fold|perl|other)
				if text.wrong.E == api.ErrUTF8 {
					text = whole(api.ErrUTF8, quoted)
				}
				holds(t, quoted, perl|fold|other, text)
				if !utf8.ValidString(s) {
					holds(t, s, api.FlagLit|fold, whole(api.ErrUTF8, s))
				}
			}
		}
	}
}

// TestLit: Y1: with FlagLit the pattern is a text, on whatever other flags: its runes' atoms.
func TestLit(t *testing.T) {
	plain, fold := sums(api.FlagLit, api.FlagFold), sums(api.FlagLit|api.FlagFold, 0)
	each(t, append(plain, fold...), map[string]answer{"": tells("empty"), "1": tells("1"), "12": tells("cat(1 2)"), "*": tells("*"), "**": tells("cat(* *)"), `\`: tells(`\`), `\\`: tells(`cat(\ \)`), "(": tells("#28"), ")(": tells("cat(#29 #28)"), "[": tells("#5b"), "|": tells("|"), "1|2": tells("cat(1 | 2)"), "^.$": tells("cat(^ . $)"), "{2,1}": tells("cat({ 2 , 1 })"), "1{2}": tells("cat(1 { 2 })"), "世": tells("#4e16"), "\x00\n": tells("cat(#0 #a)"), "(?)": tells("cat(#28 ? #29)"), "\ufffd": tells("#fffd"), "\U0010ffff": tells("#10ffff")})
	each(t, plain, map[string]answer{"k": tells("k"), `\Q`: tells(`cat(\ Q)`), "(?i)k": tells("cat(#28 ? i #29 k)"), "é": tells("#e9"), "[a]": tells("cat(#5b a #5d)"), `\d`: tells(`cat(\ d)`)})
	each(t, fold, map[string]answer{"k": tells("[4b-4b 6b-6b 212a-212a]"), `\Q`: tells(`cat(\ [51-51 71-71])`), "(?s)1": tells("cat(#28 ? [53-53 73-73 17f-17f] #29 1)"), "é": tells("[c9-c9 e9-e9]"), "1K": tells("cat(1 [4b-4b 6b-6b 212a-212a])"), "σ": tells("[3a3-3a3 3c2-3c3]")})
	for _, f := range sums(api.FlagLit, 0) {
		holds(t, strings.Repeat("1", 1024), f, tells("cat("+strings.Repeat("1 ", 1023)+"1)"))
		holds(t, strings.Repeat("(", 1024), f, tells("cat("+strings.Repeat("#28 ", 1023)+"#28)"))
		holds(t, strings.Repeat("1", 1025), f, whole(api.ErrTooMany, strings.Repeat("1", 1025)))
		holds(t, "1\xff", f, whole(api.ErrUTF8, "1\xff"))
	}
}

// TestQuoted: Y1: \Q with \E and without, empty, at the end, within a group; what stands in it is no more than runes; a repeat behind is its last one's.
func TestQuoted(t *testing.T) {
	each(t, greedyPerl(), map[string]answer{
		`\Q`: tells("empty"), `\Q\E`: tells("empty"), `a\Q`: tells("a"), `a\Q\Eb`: tells("cat(a b)"), `\Qa`: tells("a"), `\Qab`: tells("cat(a b)"), `\Qab\E`: tells("cat(a b)"), `a\Qbc\Ed`: tells("cat(a b c d)"), `a|\Qb|c\E|d`: tells("alt(a cat(b | c) d)"), `\Q*+?{2}\E`: tells("cat(* + ? { 2 })"), `\Q(a\E)`: whole(api.ErrParen, `\Q(a\E)`), `(\Q(a\E)`: tells("cap1(cat(#28 a))"), `(\Qa)`: whole(api.ErrParen, `(\Qa)`), `(?:\Q)\E)`: tells("#29"), `\Q[a\E]`: tells("cat(#5b a #5d)"), `\Q^.$`: tells("cat(^ . $)"), `\Q(?i)\Ek`: tells("cat(#28 ? i #29 k)"), `\Q世\E`: tells("#4e16"), "\\Q\x00\n": tells("cat(#0 #a)"),
		`\Q\`: tells(`\`), `\Q\\E`: tells(`\`), `\Q\\\E`: tells(`cat(\ \)`), `\Qa\d`: tells(`cat(a \ d)`), `\Q\Q\E`: tells(`cat(\ Q)`), `\Qa\Qb\Ec`: tells(`cat(a \ Q b c)`), `\Q\e\E`: tells(`cat(\ e)`), `\QE\E`: tells("E"), `\Qa\E\Qb\E`: tells("cat(a b)"), `\Qa\E\E`: refuses(api.ErrEscape, 5, 7), `\E`: refuses(api.ErrEscape, 0, 2), `a\E`: refuses(api.ErrEscape, 1, 3), `\Q\E\E`: refuses(api.ErrEscape, 4, 6), `\q`: refuses(api.ErrEscape, 0, 2), `\Qa\E\`: refuses(api.ErrTrail, 5, 6), `\x{51}`: tells("Q"),
		`\Qa\E*`: tells("star(a)"), `\Qab\E*`: tells("cat(a star(b))"), `\Qabc\E{2}d`: tells("cat(a b {2,2}(c) d)"), `a\Qb\E+?`: tells("cat(a plus?(b))"), `\Qab\E*?c`: tells("cat(a star?(b) c)"), `a\Q\E*`: tells("star(a)"), `\Qa*\E*`: tells("cat(a star(*))"), `\Q**\E*`: tells("cat(* star(*))"), `\Qa\E**`: refuses(api.ErrNested, 5, 7), `\Q\E*`: refuses(api.ErrMissing, 4, 5), `a|\Q\E*`: refuses(api.ErrMissing, 6, 7), `(?:\Qab\E)*`: tells("star(cat(a b))"), `\Qé世\E*`: tells("cat(#e9 star(#4e16))"), `*\Qa`: refuses(api.ErrMissing, 0, 1),
	})
	each(t, sums(api.FlagPerl|api.FlagFold, api.FlagLit|api.FlagSwap), map[string]answer{`\Qk1\E*`: tells("cat([4b-4b 6b-6b 212a-212a] star(1))"), `\Q1k\E*`: tells("cat(1 star([4b-4b 6b-6b 212a-212a]))"), `(?-i)\Qk`: tells("k"), `(?-i:\Qk\E)k`: tells("cat(k [4b-4b 6b-6b 212a-212a])"), `\Q(?-i)k`: tells("cat(#28 ? - [49-49 69-69] #29 [4b-4b 6b-6b 212a-212a])")})
	for _, f := range anyPlain() {
		holds(t, `1\Q2\E`, f, refuses(api.ErrEscape, 1, 3))
		holds(t, `(\Q`, f, refuses(api.ErrEscape, 1, 3))
	}
	for c := rune(0); c < 0x3000; c++ {
		for _, text := range []string{`\Q%s`, `\Q%s\E`} {
			if c != '\\' {
				holds(t, fmt.Sprintf(text, string(c)), api.FlagPerl, tells(showRune(c)))
				holds(t, fmt.Sprintf(text, "1"+string(c)+"2"), api.FlagPerl, tells("cat(1 "+showRune(c)+" 2)"))
			}
		}
	}
}
