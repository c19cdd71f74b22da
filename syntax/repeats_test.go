package syntax_test

import (
	"fmt"
	"strings"
	"testing"

	"martello/api"
)

// again is a repeat behind one atom: how it is written, ahead of the ? of a lazy one, if it is right.
type again struct{ text, shown string }

func agains() []again {
	var all []again
	for text, shown := range repeats() {
		all = append(all, again{text, shown})
	}
	return all
}

// TestRepeats: Y1: each repeat on all flags: a ? right behind it belongs to it with FlagPerl alone; FlagSwap turns lazy ones. The flags are those that stand where the repeat does.
func TestRepeats(t *testing.T) {
	for _, x := range agains() {
		for _, f := range anyFlags() {
			swap, end := f&api.FlagSwap != 0, 1+len(x.text)
			plain, other := x.shown+showLazy(swap)+"(1)", x.shown+showLazy(!swap)+"(1)"
			holds(t, "1"+x.text, f, tells(plain))
			holds(t, "1"+x.text+"|2", f, tells("alt("+plain+" 2)"))
			holds(t, "(1"+x.text+")2", f, tells("cat(cap1("+plain+") 2)"))
			if f&api.FlagPerl == 0 {
				holds(t, "1"+x.text+"?", f, refuses(api.ErrNested, 1, end+1))
				holds(t, "1"+x.text+"??", f, refuses(api.ErrNested, 1, end+1))
				continue
			}
			holds(t, "1"+x.text+"?", f, tells(other))
			holds(t, "1"+x.text+"?2", f, tells("cat("+other+" 2)"))
			holds(t, "1"+x.text+"??", f, refuses(api.ErrNested, 1, end+2))
			holds(t, "1(?U)"+x.text, f, tells(x.shown+"?(1)"))
			holds(t, "1(?U)"+x.text+"?", f, tells(x.shown+"(1)"))
			holds(t, "1(?-U)"+x.text, f, tells(x.shown+"(1)"))
			holds(t, "1(?-U)"+x.text+"?", f, tells(x.shown+"?(1)"))
			holds(t, "(?U:1)"+x.text, f, tells(plain))
			holds(t, "(?-U:1"+x.text+")", f, tells(x.shown+"(1)"))
			holds(t, "(?U:1"+x.text+"?)"+x.text, f, tells(x.shown+showLazy(swap)+"("+x.shown+"(1))"))
			holds(t, "1"+x.text+"(?-U)?", f, tells("quest("+plain+")"))
		}
	}
}

// TestCounts: Y1: counts of each form, with numbers to 1000, and above.
func TestCounts(t *testing.T) {
	for _, f := range []api.Flag{0, api.FlagPerl, api.FlagPerl | api.FlagMulti | api.FlagDot} {
		for n := range 1002 {
			for text, shown := range map[string]string{"1{%d}": "{%d,%[1]d}(1)", "1{%d,}": "{%d,-1}(1)", "1{0,%d}": "{0,%d}(1)", "1{%d,1000}": "{%d,1000}(1)", "1{0%d,0001000}": "{%d,1000}(1)"} {
				s := fmt.Sprintf(text, n)
				if n <= 1000 {
					holds(t, s, f, tells(fmt.Sprintf(shown, n)))
				} else {
					holds(t, s, f, refuses(api.ErrRepeat, 1, len(s)))
				}
			}
		}
	}
	each(t, anyFlags(), map[string]answer{
		"1{1001}": refuses(api.ErrRepeat, 1, 7), "1{1001,}": refuses(api.ErrRepeat, 1, 8), "1{0,1001}": refuses(api.ErrRepeat, 1, 9), "1{1001,1002}": refuses(api.ErrRepeat, 1, 12), "1{1000,1001}": refuses(api.ErrRepeat, 1, 12), "1{1001,5}": refuses(api.ErrRepeat, 1, 9), "1{1001,1001}": refuses(api.ErrRepeat, 1, 12), "1{99999999999999999999999}": refuses(api.ErrRepeat, 1, 26), "1{4294967297}": refuses(api.ErrRepeat, 1, 13), "1{0,18446744073709551617}": refuses(api.ErrRepeat, 1, 25), "1{" + strings.Repeat("9", 900) + "}": refuses(api.ErrRepeat, 1, 903),
		"1{1,0}": refuses(api.ErrRepeat, 1, 6), "1{2,1}": refuses(api.ErrRepeat, 1, 6), "1{1000,999}": refuses(api.ErrRepeat, 1, 11), "1{10,9}": refuses(api.ErrRepeat, 1, 7), "世{02,1}2": refuses(api.ErrRepeat, 3, 9), "(1{3,2})": refuses(api.ErrRepeat, 2, 7), "1|2{3,2}": refuses(api.ErrRepeat, 3, 8), "12{3,2}": refuses(api.ErrRepeat, 2, 7), "(){3,2}": refuses(api.ErrRepeat, 2, 7), "^{3,2}": refuses(api.ErrRepeat, 1, 6),
		"1{2,1}?": refuses(api.ErrRepeat, 1, 6), "1{1001}?": refuses(api.ErrRepeat, 1, 7), "1{2,1}*": refuses(api.ErrRepeat, 1, 6), "1{2,1}{3}": refuses(api.ErrRepeat, 1, 6), "1{2,1}{3,2}": refuses(api.ErrRepeat, 1, 6), "1{2,1}??": refuses(api.ErrRepeat, 1, 6),
		// of another repeat's count, which comes ahead of what that is behind
		"1*{2,1}": refuses(api.ErrRepeat, 2, 7), "1+{1001}": refuses(api.ErrRepeat, 2, 8), "1?{1001,}?": refuses(api.ErrRepeat, 2, 9), "1{2}{2,1}": refuses(api.ErrRepeat, 4, 9), "é{0,}{0,1001}?": refuses(api.ErrRepeat, 6, 14),
	})
	each(t, anyPerl(), map[string]answer{"1*?{2,1}": refuses(api.ErrRepeat, 3, 8), "1{2}?{2,1}?": refuses(api.ErrRepeat, 5, 10), "1(?i){2,1}": refuses(api.ErrRepeat, 5, 10), `\Q1\E{2,1}`: refuses(api.ErrRepeat, 5, 10)})
	each(t, anyPlain(), map[string]answer{"1*?{2,1}": refuses(api.ErrNested, 1, 3), "1{2}?{2,1}?": refuses(api.ErrNested, 1, 5)})
	for _, f := range greedy() {
		holds(t, "1{0}{", f, tells("cat({0,0}(1) {)"))
		holds(t, "{{2}", f, tells("{2,2}({)"))
		holds(t, "}{2}", f, tells("{2,2}(})"))
	}
}

// TestNoCount: Y1: a { that begins no count is a rune, with what stands behind it, and may be repeated.
func TestNoCount(t *testing.T) {
	for _, s := range []string{"{", "{}", "{,}", "{,2}", "{1", "{1,", "{1,2", "{1,2,3}", "{1 }", "{ 1}", "{1, 2}", "{-1}", "{1-2}", "{1/5}", "{1;2}", "{,1,}", "{1,2 }", "{%}", "{1{", "{1,{", "{1\n}", "{é}", "{1é}", "{１}", "}", "{{", "}{", "{:1}", "{}1}"} {
		for _, f := range unfolded() {
			if f&api.FlagSwap != 0 {
				continue
			}
			var atoms []string
			for _, c := range s {
				atoms = append(atoms, showRune(c))
			}
			holds(t, s, f, tells(join("cat", atoms...)))
			holds(t, "1"+s, f, tells("cat(1 "+strings.Join(atoms, " ")+")"))
			holds(t, "(1*"+s+")", f, tells("cap1(cat(star(1) "+strings.Join(atoms, " ")+"))"))
			holds(t, "1|"+s+"|", f, tells("alt(1 "+join("cat", atoms...)+" empty)"))
			last := &atoms[len(atoms)-1]
			*last = "plus(" + *last + ")"
			holds(t, s+"+", f, tells(join("cat", atoms...)))
		}
	}
}

// TestNested: Y1: a repeat right behind a repeat, each behind each other one, with a ? and without; the bytes are those of both.
func TestNested(t *testing.T) {
	for _, a := range agains() {
		for _, b := range agains() {
			for _, f := range anyFlags() {
				for _, atom := range []string{"1", "世", "()", "[a]", "^", `\.`, "2|1", "(2"} {
					from, to := len(atom), len(atom+a.text+b.text)
					if b.text == "?" && f&api.FlagPerl != 0 {
						continue // it belongs to the first one
					}
					holds(t, atom+a.text+b.text, f, refuses(api.ErrNested, from, to))
					for _, behind := range []string{"*", "2", "{2,1}", ")", "|*", `\`, "[", "("} {
						holds(t, atom+a.text+b.text+behind, f, refuses(api.ErrNested, from, to))
					}
					if f&api.FlagPerl == 0 {
						holds(t, atom+a.text+b.text+"?", f, refuses(api.ErrNested, from, to))
						continue
					}
					holds(t, atom+a.text+b.text+"?", f, refuses(api.ErrNested, from, to+1))
					holds(t, atom+a.text+b.text+"??", f, refuses(api.ErrNested, from, to+1))
					holds(t, atom+a.text+"?"+b.text, f, refuses(api.ErrNested, from, to+1))
					holds(t, atom+a.text+"?"+b.text+"?", f, refuses(api.ErrNested, from, to+2))
				}
			}
		}
	}
	each(t, anyPerl(), map[string]answer{"a*???": refuses(api.ErrNested, 1, 5), "a???": refuses(api.ErrNested, 1, 4), "a????": refuses(api.ErrNested, 1, 5), "a*?*?*?": refuses(api.ErrNested, 1, 5), "ab(?:c)++": refuses(api.ErrNested, 7, 9)})
	each(t, anyPlain(), map[string]answer{"a*???": refuses(api.ErrNested, 1, 3), "a???": refuses(api.ErrNested, 1, 3), "a??": refuses(api.ErrNested, 1, 3)})
}

// TestNotNested: Y1: a repeat of what is repeated, but that does not stand right behind it, is none of these.
func TestNotNested(t *testing.T) {
	for _, f := range greedy() {
		for s, want := range map[string]string{"(1*)*": "star(cap1(star(1)))", "(1*)+2?": "cat(plus(cap1(star(1))) quest(2))", "1*2*": "cat(star(1) star(2))", "1*{": "cat(star(1) {)", "1*{,2}": "cat(star(1) { , 2 })", `1*\*`: "cat(star(1) *)", "1*[*]*": "cat(star(1) star([2a-2a]))", "(1*|2)*": "star(cap1(alt(star(1) 2)))"} {
			holds(t, s, f, tells(want))
		}
	}
	for _, f := range greedyPerl() {
		for s, want := range map[string]string{"(?:1*)*": "star(star(1))", "(?:1*?)*": "star(star?(1))", "(?:1*)*?": "star?(star(1))", "(?:(?:1+)?){2}": "{2,2}(quest(plus(1)))", "1*(?s)*": "star(star(1))", `1*\Q\E+`: "plus(star(1))", "1*(?m)?": "quest(star(1))", "1*(?m)??": "quest?(star(1))", "1*?(?m)?": "quest(star?(1))", `1+\Q\E{2}(?s)*`: "star({2,2}(plus(1)))", `\Q1*\E*`: "cat(1 star(*))", `1*\Q*\E*`: "cat(star(1) star(*))"} {
			holds(t, s, f, tells(want))
		}
	}
}

// TestMissing: Y1: a repeat where no atom stands ahead in its part; its bytes are without a ? that would belong to it, and it comes ahead of what is wrong with its count.
func TestMissing(t *testing.T) {
	plain := []string{"", "|", "1|", "1||", "(", "((", "1(", "(1|", "1|(", "()(", "(1)|", "1*|", "é|世(", "[a]|"}
	perl := []string{"", "|", "1||", "(1|", "(1)|", "1*|", "é|世(()|", "(?i)", "(?i)(?s)", "1|(?i)", "(?:", "(?i:", "(?P<x>", "(?<x>", `\Q\E`, `1|\Q\E`, `(?i)\Q\E(?-i)`, `\Q\E\Q\E`, "((?i)", "(?:1|(?i)", `(\Q\E`, "1(?:(?U)", "(?:(?:", `(?:\Q1\E|`}
	counts := []string{"{2,1}", "{1001}", "{1001,}", "{0,1001}", "{5,1001}", "{9999999999999,1}"}
	for _, x := range agains() {
		counts = append(counts, x.text)
	}
	for _, text := range counts {
		for _, behind := range []string{"", "?", "??", "*", "1", "{2,1}", "|", ")", "(", `\`, "[b-a]", "1**"} {
			for _, f := range anyFlags() {
				all := plain
				if f&api.FlagPerl != 0 {
					all = perl
				}
				for _, ahead := range all {
					holds(t, ahead+text+behind, f, refuses(api.ErrMissing, len(ahead), len(ahead+text)))
				}
			}
		}
	}
}

// TestRepeatsBehindNoAtom: Y1: flags, and a \Q without runes, are looked through: what stands ahead of them is repeated.
func TestRepeatsBehindNoAtom(t *testing.T) {
	for _, f := range greedyPerl() {
		for s, want := range map[string]string{
			"1(?i)*": "star(1)", "12(?i)*": "cat(1 star(2))", "1(?i)(?s){2}": "{2,2}(1)", `1\Q\E?`: "quest(1)", `1\Q\E(?i)\Q\E+?`: "plus?(1)", "(1)(?i)*": "star(cap1(1))", "(?:12)(?i)*": "star(cat(1 2))", "1|2(?i)*": "alt(1 star(2))", `(2\Q\E*|3)`: "cap1(alt(star(2) 3))", "1(?U)*": "star?(1)", "1(?U)*?": "star(1)", "1(?U:)*": "cat(1 star(empty))", "1(?:)*": "cat(1 star(empty))", "1()*": "cat(1 star(cap1(empty)))", "(?:(?i)1)*": "star(1)", `\Q12\E(?i)\Q\E*`: "cat(1 star(2))", "^(?i)*": "star(" + edge(f) + ")",
		} {
			holds(t, s, f, tells(want))
		}
	}
}

// edge is what ^ is under flags.
func edge(f api.Flag) string {
	if f&api.FlagMulti != 0 {
		return "at4"
	}
	return "at1"
}
