package syntax_test

import (
	"strings"
	"testing"

	"martello/api"
	"martello/syntax"
)

// The calls of the chapter, by their signatures.
var (
	_ func(string, api.Flag) (api.Tree, api.Wrong) = syntax.Parse
	_ func(string) string                          = syntax.Quote
)

// TestExamples: the chapter's table.
func TestExamples(t *testing.T) {
	holds(t, "a|b*", 0, tells("alt(a star(b))"))
	holds(t, "(?i)k(?P<x>.)", api.FlagPerl, tells("cat([4b-4b 6b-6b 212a-212a] cap1:x([0-9 b-10ffff]))"))
	for _, f := range greedy() {
		holds(t, "a{2,1}", f, refuses(api.ErrRepeat, 1, 6))
		holds(t, "a**", f, refuses(api.ErrNested, 1, 3))
		holds(t, "*", f, refuses(api.ErrMissing, 0, 1))
		holds(t, "(a", f, refuses(api.ErrParen, 0, 2))
		holds(t, "a)", f, refuses(api.ErrParen, 0, 2))
	}
	holds(t, "a{,2}", 0, tells("cat(a { , 2 })"))
}

// TestDocument: of the ten examples of the whole those that tell a tree or an error.
func TestDocument(t *testing.T) {
	for s, want := range map[string]answer{
		"(a|ab)(c|bcd)?":  tells("cat(cap1(alt(a cat(a b))) quest(cap2(alt(c cat(b c d)))))"),
		"a|ab":            tells("alt(a cat(a b))"),
		"(|a)+":           tells("plus(cap1(alt(empty a)))"),
		"(?:a*?)*":        tells("star(star?(a))"),
		"(a*)+b":          tells("cat(plus(cap1(star(a))) b)"),
		"a*":              tells("star(a)"),
		"(?i)k":           tells("[4b-4b 6b-6b 212a-212a]"),
		`\b`:              tells("at16"),
		"(?P<x>a)(b)?":    tells("cat(cap1:x(a) quest(cap2(b)))"),
		"a**":             refuses(api.ErrNested, 1, 3),
		"(":               refuses(api.ErrParen, 0, 1),
		"(a)b?":           tells("cat(cap1(a) quest(b))"),
		"(?:ab|)*":        tells("star(alt(cat(a b) empty))"),
		"a{2}{":           tells("cat({2,2}(a) {)"),
		"(?:a{0}|b)(?:^)": tells("cat(alt({0,0}(a) b) at1)"),
	} {
		holds(t, s, api.FlagPerl, want)
	}
}

// TestEmpty: Y1: the empty pattern, and empty parts at each place where parts may stand.
func TestEmpty(t *testing.T) {
	each(t, unfolded(), map[string]answer{
		"": tells("empty"), "|": tells("alt(empty empty)"), "||": tells("alt(empty empty empty)"), "a|": tells("alt(a empty)"), "|a": tells("alt(empty a)"), "a||b": tells("alt(a empty b)"), "|a|": tells("alt(empty a empty)"), "||a": tells("alt(empty empty a)"), "ab||": tells("alt(cat(a b) empty empty)"),
		"()": tells("cap1(empty)"), "(|)": tells("cap1(alt(empty empty))"), "(|a)": tells("cap1(alt(empty a))"), "(a|)": tells("cap1(alt(a empty))"), "(a||b)": tells("cap1(alt(a empty b))"), "()()": tells("cat(cap1(empty) cap2(empty))"), "()|": tells("alt(cap1(empty) empty)"), "|()": tells("alt(empty cap1(empty))"), "(())": tells("cap1(cap2(empty))"), "a()b": tells("cat(a cap1(empty) b)"),
	})
	each(t, anyPerl(), map[string]answer{
		"(?:)": tells("empty"), "(?:|)": tells("alt(empty empty)"), "(?i)": tells("empty"), "(?i)(?s)": tells("empty"), "(?i)|": tells("alt(empty empty)"), "|(?i)": tells("alt(empty empty)"), "((?i))": tells("cap1(empty)"), "(?i:)": tells("empty"), "(?:)(?:)": tells("cat(empty empty)"), "(?P<x>)": tells("cap1:x(empty)"), "(?<x>|)": tells("cap1:x(alt(empty empty))"),
		`\Q`: tells("empty"), `\Q\E`: tells("empty"), `\Q\E\Q\E`: tells("empty"), `\Q\E|\Q`: tells("alt(empty empty)"), `(\Q\E)`: tells("cap1(empty)"), `(?i)\Q\E(?-i)`: tells("empty"), "(?:(?:))": tells("empty"), "(?:(?i))": tells("empty"),
	})
	holds(t, "a(?:)b", api.FlagPerl, tells("cat(a empty b)"))
	holds(t, `a\Q\Eb(?i)`, api.FlagPerl, tells("cat(a b)"))
	for _, f := range sums(api.FlagLit, 0) {
		holds(t, "", f, tells("empty"))
	}
}

// TestParts: Y1: parts of one atom and of several; trees within a tree stay as they are.
func TestParts(t *testing.T) {
	each(t, unfolded(), map[string]answer{
		"a": tells("a"), "ab": tells("cat(a b)"), "abc": tells("cat(a b c)"), "a|b": tells("alt(a b)"), "a|b|c": tells("alt(a b c)"), "ab|c": tells("alt(cat(a b) c)"), "a|bc|def": tells("alt(a cat(b c) cat(d e f))"), "a|a": tells("alt(a a)"),
		"(a)": tells("cap1(a)"), "(ab)": tells("cap1(cat(a b))"), "(a|b)c": tells("cat(cap1(alt(a b)) c)"), "a(b|c)|d": tells("alt(cat(a cap1(alt(b c))) d)"), "((a|b)|c)|d": tells("alt(cap1(alt(cap2(alt(a b)) c)) d)"),
	})
	each(t, sums(api.FlagPerl, api.FlagLit|api.FlagFold), map[string]answer{
		"(?:a)": tells("a"), "(?:ab)": tells("cat(a b)"), "(?:ab)c": tells("cat(cat(a b) c)"), "a(?:bc)": tells("cat(a cat(b c))"), "(?:a|b)c": tells("cat(alt(a b) c)"), "(?:a|b)|c": tells("alt(alt(a b) c)"), "a|(?:b|c)": tells("alt(a alt(b c))"), "(?:a|b)": tells("alt(a b)"), "(?:(?:ab)c)": tells("cat(cat(a b) c)"), "(?:ab)|(?:cd)": tells("alt(cat(a b) cat(c d))"), "(?:)a": tells("cat(empty a)"),
	})
	holds(t, strings.Repeat("a|", 500)+"a", 0, tells("alt("+strings.Repeat("a ", 500)+"a)"))
	holds(t, strings.Repeat("|", 1024), 0, tells("alt("+strings.Repeat("empty ", 1024)+"empty)"))
}

// TestGroups: Y1: groups with a name and without, within one another, numbered in the order of their (.
func TestGroups(t *testing.T) {
	each(t, unfolded(), map[string]answer{
		"(a)(b)(c)": tells("cat(cap1(a) cap2(b) cap3(c))"), "((a)(b))(c)": tells("cat(cap1(cat(cap2(a) cap3(b))) cap4(c))"), "(((a)))": tells("cap1(cap2(cap3(a)))"), "(a)|(b)": tells("alt(cap1(a) cap2(b))"), "((a)|(b(c)))|(d)": tells("alt(cap1(alt(cap2(a) cap3(cat(b cap4(c))))) cap5(d))"), "(a(b)c)(d)": tells("cat(cap1(cat(a cap2(b) c)) cap3(d))"), `\((a)\)`: tells("cat(#28 cap1(a) #29)"), "[(](a)[)]": tells("cat([28-28] cap1(a) [29-29])"),
	})
	each(t, sums(api.FlagPerl, api.FlagLit|api.FlagFold), map[string]answer{
		"(?P<x>a)": tells("cap1:x(a)"), "(?<x>a)": tells("cap1:x(a)"), "(?P<x>a)(?<y>b)(c)": tells("cat(cap1:x(a) cap2:y(b) cap3(c))"), "(?<x>(?P<X>a)(b(?<_1>c)))": tells("cap1:x(cat(cap2:X(a) cap3(cat(b cap4:_1(c)))))"), "(?:(a)(?:(b)))(c)": tells("cat(cat(cap1(a) cap2(b)) cap3(c))"), "(?i:(?P<x>1))(2)": tells("cat(cap1:x(1) cap2(2))"), "(?s)(1)": tells("cap1(1)"), "(?P<x>a|b)|(?P<xx>c)": tells("alt(cap1:x(alt(a b)) cap2:xx(c))"), `\Q(\E(a)`: tells("cat(#28 cap1(a))"), `\Q(?P<x>\E(?P<x>)`: tells("cat(#28 ? P < x > cap1:x(empty))"),
		"(?P<" + strings.Repeat("n", 32) + ">a)": tells("cap1:" + strings.Repeat("n", 32) + "(a)"),
	})
	all, shown := "", ""
	for i := range 300 {
		all += "()"
		shown += " cap@(empty)"
		if i == 0 {
			shown = shown[1:]
		}
	}
	holds(t, all, 0, tells(numbered("cat("+shown+")")))
}

// TestGroupsPlain: Y1: without FlagPerl a ( is a group, whatever stands behind it: a ? there has no atom to repeat.
func TestGroupsPlain(t *testing.T) {
	for _, s := range []string{"(?P<x>a)", "(?<x>a)", "(?:a)", "(?i)a", "(?i:a)", "(?)", "(?", "(??a)", "(?P<", "(?x)", "(?P<x>a)(?P<x>b)"} {
		for _, f := range anyPlain() {
			holds(t, s, f, refuses(api.ErrMissing, 1, 2))
			holds(t, "a|(b"+s, f, refuses(api.ErrMissing, 5, 6))
			holds(t, "é"+s, f, refuses(api.ErrMissing, 3, 4))
		}
	}
}

// TestNames: Y1: a name that is none, or stands ahead already, wherever; its bytes are those from the ( to behind the >.
func TestNames(t *testing.T) {
	each(t, anyPerl(), map[string]answer{
		"(?P<x>a)(?P<x>b)": refuses(api.ErrGroupName, 8, 14), "(?<x>a)(?<x>b)": refuses(api.ErrGroupName, 7, 12), "(?P<x>a)(?<x>b)": refuses(api.ErrGroupName, 8, 13), "(?P<x>(?P<x>b))": refuses(api.ErrGroupName, 6, 12), "(?P<x>a)|(?P<x>b)": refuses(api.ErrGroupName, 9, 15), "((?P<x>))(((?<x>": refuses(api.ErrGroupName, 11, 16), "(?P<x>)(?P<y>)(?P<z>)(?P<y>)": refuses(api.ErrGroupName, 21, 27), "é(?P<ab>)世(?P<ab>": refuses(api.ErrGroupName, 13, 20), "(?:(?P<x>))(?i:(?P<x>": refuses(api.ErrGroupName, 15, 21), "(?P<x>)(?P<x>)(?P<x>)": refuses(api.ErrGroupName, 7, 13), "(?P<x>)(?P<y>)(?P<x>*": refuses(api.ErrGroupName, 14, 20),
		"(?P<>a)": refuses(api.ErrGroupName, 0, 5), "(?<>a)": refuses(api.ErrGroupName, 0, 4), "(?P<1>a)": refuses(api.ErrGroupName, 0, 6), "a(?P<x-y>a)": refuses(api.ErrGroupName, 1, 9), "(?P<é>a)": refuses(api.ErrGroupName, 0, 7), "a(?P<x": refuses(api.ErrGroupName, 1, 6), "a(?P<x)b>": refuses(api.ErrGroupName, 1, 9), "(?<": refuses(api.ErrGroupName, 0, 3), "(?P<": refuses(api.ErrGroupName, 0, 4), "(?<=a)": refuses(api.ErrGroupName, 0, 6), "(?<!a>)": refuses(api.ErrGroupName, 0, 6), "(((?P<x y>": refuses(api.ErrGroupName, 2, 10), "(?P<x>)(?P<x": refuses(api.ErrGroupName, 7, 12),
		"(?P<" + strings.Repeat("n", 33) + ">a)": refuses(api.ErrGroupName, 0, 38),
		"(?P<x>)(?P<X>)":                         tells("cat(cap1:x(empty) cap2:X(empty))"), "()()": tells("cat(cap1(empty) cap2(empty))"), "(?P<x>)()(?P<xx>)": tells("cat(cap1:x(empty) cap2(empty) cap3:xx(empty))"),
	})
}
