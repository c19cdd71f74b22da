package samples

import (
	"slices"
	"strings"

	"martello/api"
	"martello/syntax"
)

// Patterns are of each kind of part that syntax reads.
func Patterns() []string {
	return []string{
		"", "a", "ab", "k", "kS", "Σσς", "é", "世界", "\x00", "\n", " ", "a b", "-", "a-b", "0", "9", "_", "~!\"#%&',-/:;<=>@`", `\.\+\*\?\(\)\|\[\]\{\}\^\$\\`, `\x41\x{e9}\x{10ffff}\x{d800}\x{0}`, `\a\f\n\r\t\v`, `\-\!\_`,
		"a|b", "a|", "|a", "|", "||", "a||b", "(|)", "(?:|)", "(?:a|b)|c", "a|(?:b|c)", "(?:a|b)(?:c|d)", "(?:a|b)c", "a(?:b|c)", "(?:(?:a|b))", "(?:(?:a|b)|(?:c|d))e", "(?:ab)c", "a(?:bc)", "(?:ab)(?:cd)", "(?:(?:ab)c)d", "(?:)", "a(?:)b", "(?:)(?:)", "(?:)|(?:)", "(?:|a)b(?:c|)",
		"a*", "a+", "a?", "a*?", "a+?", "a??", "a{2}", "a{2,}", "a{2,3}", "a{2}?", "a{2,}?", "a{2,3}?", "a{0}", "a{0,}", "a{0,0}", "a{0,1}", "a{1}", "a{1,1}", "a{1000}", "a{1000,}", "a{0,1000}", "a{007,08}", "a{,2}", "a{", "a{2", "a{2}{", "a{x}", "a}", "a]",
		"(?:a*)*", "(?:a*)+", "(?:a+?)??", "(?:a{2}){3}", "(?:(?:a*)?){2,}?", "a*(?i)*", "a*(?i)*(?s)+?", `a+\Q\E{2}`, "(?:ab)*", "(?:a|b)*", "(?:ab|)*", "(?:)*", "(?:|)*", "(?:)??", "(?:a)*", "(?:a)?b", "(?:a?b)?", "(?:(?:ab)*c)+", "^*", "$+", `\b?`, `(?m)^*$+`, "(?:^|$)*", "[a-c]*", ".{2}", `\d+`, "(a)*", "(?P<x>a)+?", `[^\x{0}-\x{10ffff}]*`,
		"()", "(a)", "(a)(b)", "((a)b)", "((a)|(b))*", "(((((a)))))", "(?P<x>a)", "(?<x>a)", "(?P<x>)(?P<y>)", "(?P<x>(?P<y>(z)))", "(?P<abc_9>a|b)(?<_>c*)?", "(?P<x>(a)|(?<y>b))(c)", "(a)|(b)|(c)", "(|a)+", "(a|b|)", "((?i)k)k", "(?P<" + strings.Repeat("n", 32) + ">a)",
		"[a]", "[ab]", "[ac]", "[a-z]", "[^a]", "[^a-z]", "[]a]", "[a-]", "[--/]", "[^]a]", `[\]\-\\]`, `[[:digit:]]`, `[[:^digit:]]`, `[\d\W]`, `[\w\W]`, `[^\w\W]`, `[^\x{0}-\x{10ffff}]`, `[\x{0}-\x{10ffff}]`, "[ks]", "[^ks]", "[é-世]", "[\x00-\x1f]", `\pL`, `\PL`, `\p{Lu}`, `\P{^Lu}`, `\p{Any}`, `\P{Any}`, `\p{Greek}+`, `\d\s\w\D\S\W`, `[\p{Lu}\d]`,
		".", "..", "(?s).", "(?s:.).", "^", "$", "^a$", "(?m)^a$", "(?m:^)$", "(?-m:^)$", `\A\z`, `\b\B`, `\Aa\z`, "(?m:(?:^))", "(?m:(^))(?m:($))",
		"(?i)a", "(?i:a)b", "(?i)a(?-i)b", "(?i)k(?P<x>.)", "(?U)a*", "(?U)a*?", "(?U:a+)a+?", "(?ims-U)k.^$", "(?i)[k]", "(?i)\\pL", "(?i)ß", "(?i)\u212a", "a(?i)|k", "(?i)", "(?i)|",
		`\Qa.b\E`, `\Qa.b\E*`, `\Q(?i)\E`, `\Q`, `\Q\E`, `\Q**`, `\Q\Q\E`, "a.b", "(a|ab)(c|bcd)?", "(a*)+b", "(?:a*?)*", "(?P<x>a)(b)?", "a** | (", "(", ")", "[", `\`, "*",
	}
}

// Loops are patterns in which loops, groups and what fits nothing stand in one another.
func Loops() []string {
	return []string{
		"(a|ab)(c|bcd)?", "(|a)+", "(|a)*?", "(a*)*", "(?:a*?)*", "(?:a*)+?", "((a)|b)*?(b|)", "(a{0,2}){1,3}", "(a??){2,}", "(?:(a)|(b)){2,3}?", "(?:(|a)+b?)*",
		"((a*)b*){2}", `(?:\b(a)|b)*`, "(?m)(?:^|(a))*$", "(a|(b)|)+c?", "(?:(a){0}b|a)*", "(?:a(b)?)*?(?:ba)?", "(a*)+", "(a*?)+?", "(?:a+|b*?)+(?:ab)??", "(?:(?:)+|(?:a|)*)+b", "((((a)*)+)?)*b",
	}
}

// PatternTrees are the trees of all of these, each read under several flags.
func PatternTrees() []api.Tree {
	var all []api.Tree
	for _, pattern := range slices.Concat(Patterns(), Loops()) {
		for _, flags := range []api.Flag{0, api.FlagPerl, api.FlagPerl | api.FlagFold | api.FlagMulti, api.FlagPerl | api.FlagSwap | api.FlagDot, api.FlagLit} {
			if tree, wrong := syntax.Parse(pattern, flags); wrong.E == api.OK {
				all = append(all, tree)
			}
		}
	}
	return all
}

// Texts are all of up to n of these pieces, one behind the other.
func Texts(n int, pieces ...string) []string {
	all := []string{""}
	for from := 0; n > 0; n-- {
		to := len(all)
		for _, s := range all[from:to] {
			for _, piece := range pieces {
				all = append(all, s+piece)
			}
		}
		from = to
	}
	return all
}
