package printer_test

import (
	"fmt"
	"slices"
	"strings"
	"testing"

	"martello/api"
	"martello/printer"
	. "martello/samples"
	"martello/syntax"
	"martello/trees"
)

// flat is what a right tree's text is read as: of an OpCat in an OpCat, and of an OpAlt in an OpAlt, the Kids stand in its place; of one Kid there is just it, of none an OpEmpty.
func flat(t api.Tree) api.Tree {
	var kids []api.Tree
	joins := t.Op == api.OpCat || t.Op == api.OpAlt
	for _, kid := range t.Kids {
		kid = flat(kid)
		if joins && kid.Op == t.Op {
			kids = append(kids, kid.Kids...)
		} else {
			kids = append(kids, kid)
		}
	}
	switch {
	case joins && len(kids) == 0:
		return Empty()
	case joins && len(kids) == 1:
		return kids[0]
	}
	t.Kids = kids
	return t
}

// again holds a right tree's text, if it is not above MaxPat, against P9.2: read again it is the tree, but that what is written as one is one, with the same groups and names; and that prints to the same text.
func again(t *testing.T, tree api.Tree) {
	t.Helper()
	text, e := printer.Print(tree)
	if e != api.OK {
		t.Errorf("Print of %.400s: %d", fmt.Sprint(tree), e)
	}
	if len(text) > api.MaxPat {
		return
	}
	read, wrong := syntax.Parse(text, api.FlagPerl)
	if wrong.E != api.OK {
		t.Errorf("Parse of %q, printed of %.400s: %+v", text, fmt.Sprint(tree), wrong)
		return
	}
	if !Same(read, flat(tree)) {
		t.Errorf("%q is read as %.400s; printed of %.400s", text, fmt.Sprint(read), fmt.Sprint(tree))
	}
	if names := trees.Caps(tree); !slices.Equal(trees.Caps(read), names) {
		t.Errorf("%q is read with the groups %q; not %q", text, trees.Caps(read), names)
	}
	if more, e := printer.Print(read); more != text || e != api.OK {
		t.Errorf("%q, read again, is printed as %q, %d", text, more, e)
	}
}

// thereAndBack holds the tree of a pattern, if it is one, on these flags, against P9.1 and P9.2. It tells how many texts could be read again, and how many are too long.
func thereAndBack(t *testing.T, s string, flags ...api.Flag) (short, long int) {
	t.Helper()
	for _, f := range flags {
		tree, wrong := syntax.Parse(s, f)
		if wrong.E != api.OK || t.Failed() {
			continue
		}
		text := rewritten(tree).text
		prints(t, tree, text)
		again(t, tree)
		if len(text) <= api.MaxPat {
			short++
		} else {
			long++
		}
	}
	return short, long
}

// allFlags are all sums of them.
func allFlags() []api.Flag {
	var all []api.Flag
	for f := range api.FlagAll + 1 {
		all = append(all, f)
	}
	return all
}

// someFlags are a few sums: of the flavour and without, each flag in one at least.
func someFlags() []api.Flag { return []api.Flag{0, 2, 12, 17, 32, 33, 35, 36, 40, 48, 61} }

// texts are all of up to n of these pieces, one behind the other.
func texts(n int, pieces ...string) []string {
	all := []string{""}
	for from := 0; n > 0; n-- {
		to := len(all)
		for _, s := range all[from:to] {
			for _, piece := range pieces {
				all = append(all, s+piece)
			}
		}
		from = to
	}
	return all
}

// patterns are of each kind of part that syntax reads.
func patterns() []string {
	return []string{
		"", "a", "ab", "k", "kS", "Σσς", "é", "世界", "\x00", "\n", " ", "a b", "-", "a-b", "0", "9", "_", "~!\"#%&',-/:;<=>@`", `\.\+\*\?\(\)\|\[\]\{\}\^\$\\`, `\x41\x{e9}\x{10ffff}\x{d800}\x{0}`, `\a\f\n\r\t\v`, `\-\!\_`,
		"a|b", "a|", "|a", "|", "||", "a||b", "(|)", "(?:|)", "(?:a|b)|c", "a|(?:b|c)", "(?:a|b)(?:c|d)", "(?:a|b)c", "a(?:b|c)", "(?:(?:a|b))", "(?:(?:a|b)|(?:c|d))e", "(?:ab)c", "a(?:bc)", "(?:ab)(?:cd)", "(?:(?:ab)c)d", "(?:)", "a(?:)b", "(?:)(?:)", "(?:)|(?:)", "(?:|a)b(?:c|)",
		"a*", "a+", "a?", "a*?", "a+?", "a??", "a{2}", "a{2,}", "a{2,3}", "a{2}?", "a{2,}?", "a{2,3}?", "a{0}", "a{0,}", "a{0,0}", "a{0,1}", "a{1}", "a{1,1}", "a{1000}", "a{1000,}", "a{0,1000}", "a{007,08}", "a{,2}", "a{", "a{2", "a{2}{", "a{x}", "a}", "a]",
		"(?:a*)*", "(?:a*)+", "(?:a+?)??", "(?:a{2}){3}", "(?:(?:a*)?){2,}?", "a*(?i)*", "a*(?i)*(?s)+?", `a+\Q\E{2}`, "(?:ab)*", "(?:a|b)*", "(?:ab|)*", "(?:)*", "(?:|)*", "(?:)??", "(?:a)*", "(?:a)?b", "(?:a?b)?", "(?:(?:ab)*c)+", "^*", "$+", `\b?`, `(?m)^*$+`, "(?:^|$)*", "[a-c]*", ".{2}", `\d+`, "(a)*", "(?P<x>a)+?", `[^\x{0}-\x{10ffff}]*`,
		"()", "(a)", "(a)(b)", "((a)b)", "((a)|(b))*", "(((((a)))))", "(?P<x>a)", "(?<x>a)", "(?P<x>)(?P<y>)", "(?P<x>(?P<y>(z)))", "(?P<abc_9>a|b)(?<_>c*)?", "(?P<x>(a)|(?<y>b))(c)", "(a)|(b)|(c)", "(|a)+", "(a|b|)", "((?i)k)k", "(?P<" + strings.Repeat("n", 32) + ">a)",
		"[a]", "[ab]", "[ac]", "[a-z]", "[^a]", "[^a-z]", "[]a]", "[a-]", "[--/]", "[^]a]", `[\]\-\\]`, `[[:digit:]]`, `[[:^digit:]]`, `[\d\W]`, `[\w\W]`, `[^\w\W]`, `[^\x{0}-\x{10ffff}]`, `[\x{0}-\x{10ffff}]`, "[ks]", "[^ks]", "[é-世]", "[\x00-\x1f]", `\pL`, `\PL`, `\p{Lu}`, `\P{^Lu}`, `\p{Any}`, `\P{Any}`, `\p{Greek}+`, `\d\s\w\D\S\W`, `[\p{Lu}\d]`,
		".", "..", "(?s).", "(?s:.).", "^", "$", "^a$", "(?m)^a$", "(?m:^)$", "(?-m:^)$", `\A\z`, `\b\B`, `\Aa\z`, "(?m:(?:^))", "(?m:(^))(?m:($))",
		"(?i)a", "(?i:a)b", "(?i)a(?-i)b", "(?i)k(?P<x>.)", "(?U)a*", "(?U)a*?", "(?U:a+)a+?", "(?ims-U)k.^$", "(?i)[k]", "(?i)\\pL", "(?i)ß", "(?i)\u212a", "a(?i)|k", "(?i)", "(?i)|",
		`\Qa.b\E`, `\Qa.b\E*`, `\Q(?i)\E`, `\Q`, `\Q\E`, `\Q**`, `\Q\Q\E`, "a.b", "(a|ab)(c|bcd)?", "(a*)+b", "(?:a*?)*", "(?P<x>a)(b)?", "a** | (", "(", ")", "[", `\`, "*",
	}
}

// TestAgain: P9.2: patterns of each kind under all flags; and beside others, and as their Kids.
func TestAgain(t *testing.T) {
	read := 0
	for i, s := range patterns() {
		short, _ := thereAndBack(t, s, allFlags()...)
		read += short
		more := patterns()[(i*7+3)%len(patterns())]
		for _, around := range []string{"(" + s + ")", "(?:" + s + ")", "(?:" + s + ")*", "(?:" + s + "){2,3}?", "(?P<out>" + s + "|)+", "x" + s, s + "|" + s, "(?i:" + s + ")", "(?mU)" + s, s + more, s + "|" + more, "(?:" + s + ")(?:" + more + ")", "(?:" + s + "|" + more + ")y"} {
			short, _ := thereAndBack(t, around, someFlags()...)
			read += short
		}
		if t.Failed() {
			return
		}
	}
	if read < 20000 {
		t.Errorf("%d texts were read again", read)
	}
}

// TestAgainShort: P9.2: all short patterns of these pieces.
func TestAgainShort(t *testing.T) {
	pieces := []string{"a", "k", "é", "-", "{", "\n", ".", "^", "$", `\b`, `\pL`, "[^k]", `[^\x{0}-\x{10ffff}]`, "|", "*", "?", "+", "{2}", "{1,}", "{0,3}", "(", ")", "(?:", "(?i:", "(?m)", "(?P<x>", "(?<y>", `\Q.`, `\E`}
	for _, s := range texts(2, pieces...) {
		thereAndBack(t, s, allFlags()...)
	}
	for _, s := range texts(3, pieces...) {
		thereAndBack(t, s, 0, 29, 32, 33, 61)
	}
	for _, s := range texts(6, "a", "|", "*", "(", ")") {
		thereAndBack(t, s, 0)
	}
	for _, s := range texts(6, "k", "|", "??", "(?:", ")", "(") {
		thereAndBack(t, s, 33)
	}
}

// TestAgainText: P9.2: with FlagLit whatever bytes a pattern has.
func TestAgainText(t *testing.T) {
	for _, s := range append(patterns(), strings.Repeat("(", 400), "a\x00\x7f\u0080\u00ad\ufeff\ufffd\U0010ffff", "(?:)", `\x{61}`, "{2}") {
		thereAndBack(t, s, 2, 3, 34, 63)
	}
}

// TestAgainLength: P9.2: texts of up to 1024 bytes; and of more, which are printed, too, though no pattern may be so long.
func TestAgainLength(t *testing.T) {
	short, long := 0, 0
	for _, s := range []string{".", "é", "(?i)k", "$", `\w`, "[^a]", "(?m)^", "(.)", "a", `\.`, "(?:a|b)", "|"} {
		for _, n := range []int{1, 2, 10, 35, 36, 50, 100, 170, 204, 205, 300, 341, 512, 1023, 1024} {
			if len(s)*n <= api.MaxPat {
				some, others := thereAndBack(t, strings.Repeat(s, n), api.FlagPerl|api.FlagMulti)
				short, long = short+some, long+others
			}
		}
	}
	if short < 50 || long < 50 {
		t.Errorf("%d texts were read again, %d are too long", short, long)
	}
	for n := 1000; n <= 1030; n++ {
		tree := Star(Cat(slices.Repeat([]api.Tree{Letter('a')}, n-len("(?:)*"))...))
		prints(t, tree, "(?:"+strings.Repeat("a", n-len("(?:)*"))+")*")
		again(t, tree)
	}
}
