package syntax_test

import (
	"strings"
	"testing"

	"martello/api"
)

// TestParens: Y1: a ) that closes no group, a group that does not end: all bytes, wherever it is.
func TestParens(t *testing.T) {
	for _, s := range []string{"(", ")", "a)", "(a", "a(", ")a", "a)b", "(a))", "((a)", "(()", "())", "|)", "(|", "a|)", "(a|b", "a(b)c)d", "é)世", "(é", "()(", "()a)", "[(])", `\()`, `(\)`, "((((((((", "))))", "(a)|b)", "1{2})", "(1{2}", "^)", "a*)", "(a*", strings.Repeat("(", 1024), strings.Repeat(")", 1024), strings.Repeat("(", 511) + strings.Repeat(")", 512), strings.Repeat("(", 512) + strings.Repeat(")", 511)} {
		for _, f := range anyFlags() {
			holds(t, s, f, whole(api.ErrParen, s))
		}
	}
	for _, s := range []string{"(?:", "(?i:a", "(?:a))", "(?P<x>", "(?<x>a|", "(?i))", "(?i)a)", "((?i)", `\Q(\E)`, `(\Q)`, `(\Q)\E`, "(?:(?:)", `\Q\E)`, "(?s:|", "a(?-i:b(c)", strings.Repeat("(?:", 341), "(?P<x>))*", "(?:[)]"} {
		for _, f := range anyPerl() {
			holds(t, s, f, whole(api.ErrParen, s))
		}
	}
	for _, f := range anyFlags() { // behind a ) that closes nothing all may stand
		for _, behind := range []string{"*", "a**", "(?P<", `\`, `\q`, "[", "[b-a]", "{2,1}", "(", ")", "|*", strings.Repeat("(", 60)} {
			holds(t, ")"+behind, f, whole(api.ErrParen, ")"+behind))
			holds(t, "(1)2)"+behind, f, whole(api.ErrParen, "(1)2)"+behind))
		}
	}
}

// fault is a pattern's part that is wrong by itself.
type fault struct {
	text string
	want answer
}

// faults are of each error that a part may have.
func faults() []fault {
	return []fault{
		{"*", refuses(api.ErrMissing, 0, 1)}, {"{2,1}", refuses(api.ErrMissing, 0, 5)}, {"+?", refuses(api.ErrMissing, 0, 1)}, {"1**", refuses(api.ErrNested, 1, 3)}, {"1{2}+?", refuses(api.ErrNested, 1, 6)}, {"1{2,1}", refuses(api.ErrRepeat, 1, 6)}, {"1*{1001}", refuses(api.ErrRepeat, 2, 8)}, {`\q`, refuses(api.ErrEscape, 0, 2)}, {`\x{110000}`, refuses(api.ErrEscape, 0, 2)}, {`\p{x}`, refuses(api.ErrProperty, 0, 5)}, {"[b-a]", refuses(api.ErrClassRange, 1, 4)}, {"[[:x:]]", refuses(api.ErrClassRange, 1, 6)}, {`[\q]`, refuses(api.ErrEscape, 1, 3)}, {"(?P<1>", refuses(api.ErrGroupName, 0, 6)}, {"(?P<y>(?P<y>", refuses(api.ErrGroupName, 6, 12)}, {"(?x", refuses(api.ErrGroupFlag, 0, 3)}, {"(?i-)", refuses(api.ErrGroupFlag, 0, 5)}, {"(*", refuses(api.ErrMissing, 1, 2)}, {"(?:1**", refuses(api.ErrNested, 4, 6)},
	}
}

// TestFirstError: Y1: of two errors the first one from the left; what is right ahead changes no more than its bytes.
func TestFirstError(t *testing.T) {
	for _, a := range faults() {
		for _, f := range []api.Flag{api.FlagPerl, 61} {
			for _, ahead := range []string{"", "1|", "é世|", "(", "((|", "(?:", "(1)(?i:", "(?P<x>", "1*|", "[a]|", `\Q(*\E|`, "(?i)", "1|(?s)", "()|("} {
				moved := a.want.moved(len(ahead))
				holds(t, ahead+a.text, f, moved)
				for _, b := range faults() {
					holds(t, ahead+a.text+"|"+b.text, f, moved)
					holds(t, ahead+a.text+"|"+b.text+")", f, moved)
				}
				for _, behind := range []string{"|)", "|1(", "|" + strings.Repeat("(", 60), "|" + strings.Repeat("(", 60) + strings.Repeat(")", 60), "|1{1000}{1000}", `|\`, "|[", "|(?P<", "|(?"} {
					holds(t, ahead+a.text+behind, f, moved)
				}
			}
			deep, heavy := strings.Repeat("(", 60)+strings.Repeat(")", 60)+"|", "(?:1{1000}){1000}|"
			holds(t, deep+a.text, f, a.want.moved(len(deep)))
			holds(t, heavy+a.text, f, a.want.moved(len(heavy)))
			holds(t, "1)"+a.text, f, whole(api.ErrParen, "1)"+a.text))
		}
	}
}

// TestTwoAtOnePlace: Y1: which of two errors at one place comes ahead.
func TestTwoAtOnePlace(t *testing.T) {
	each(t, anyPerl(), map[string]answer{
		"{2,1}": refuses(api.ErrMissing, 0, 5), "{1001}": refuses(api.ErrMissing, 0, 6), "1|{1001}?": refuses(api.ErrMissing, 2, 8), "1*{2,1}": refuses(api.ErrRepeat, 2, 7), "1*{2,1}*": refuses(api.ErrRepeat, 2, 7), "1**{2,1}": refuses(api.ErrNested, 1, 3), "1{2,1}*": refuses(api.ErrRepeat, 1, 6), "**": refuses(api.ErrMissing, 0, 1), "*{2,1}": refuses(api.ErrMissing, 0, 1), "(?P<x>)(?P<x": refuses(api.ErrGroupName, 7, 12), "(?P<x>(?P<x>": refuses(api.ErrGroupName, 6, 12), `([\`: refuses(api.ErrTrail, 2, 3), "([": refuses(api.ErrBracket, 1, 2), `(\`: refuses(api.ErrTrail, 1, 2), "(?:(?": refuses(api.ErrGroupFlag, 3, 5), "((?P<x": refuses(api.ErrGroupName, 1, 6), `(\x{`: refuses(api.ErrEscape, 1, 3), `(\Q)**`: whole(api.ErrParen, `(\Q)**`),
	})
}

// TestInvalid: Y1: patterns that are no UTF-8, whatever else is wrong; about all bytes.
func TestInvalid(t *testing.T) {
	for _, s := range []string{"\xff", "\x80", "\xc3", "a\xff", "\xffa", "\xe4\xb8", "世\xe4\xb8", "\xed\xa0\x80", "\xf4\x90\x80\x80", "\xc0\x80", "*\xff", "(\xff", "\xff)", "a**\xff", "[\xff]", "\\\xff", `\Q` + "\xff", "(?P<\xff>)", "\xff" + strings.Repeat("(", 60), strings.Repeat("a", 1023) + "\xff"} {
		for f := range api.FlagAll + 1 {
			holds(t, s, f, whole(api.ErrUTF8, s))
		}
	}
	for f := range api.FlagAll + 1 { // too many bytes come ahead
		s := strings.Repeat("a", 1024) + "\xff"
		holds(t, s, f, whole(api.ErrTooMany, s))
	}
	for _, f := range unfolded() {
		holds(t, "\ufffd", f, tells("#fffd"))
		holds(t, "\ufeff\ue000\U0010ffff", f, tells("cat(#feff #e000 #10ffff)"))
	}
}
