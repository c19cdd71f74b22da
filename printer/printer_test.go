package printer_test

import (
	"testing"

	"martello/api"
	"martello/printer"
	"martello/syntax"
)

// The call of the chapter, by its signature.
var _ func(api.Tree) (string, api.Errno) = printer.Print

// readPrints holds Print of a pattern's tree against its text.
func readPrints(t *testing.T, pattern string, f api.Flag, want string) {
	t.Helper()
	tree, wrong := syntax.Parse(pattern, f)
	if wrong.E != api.OK {
		t.Fatalf("Parse(%q, %d): %+v", pattern, f, wrong)
	}
	prints(t, tree, want)
	again(t, tree)
}

// TestExamples: the chapter's table.
func TestExamples(t *testing.T) {
	readPrints(t, "a.b", api.FlagPerl, `a[\x{0}-\x{9}\x{b}-\x{10ffff}]b`)
	readPrints(t, "(?i)k+?", api.FlagPerl, `[\x{4b}\x{6b}\x{212a}]+?`)
	readPrints(t, "(?:ab|)*", api.FlagPerl, `(?:ab|(?:))*`)
	readPrints(t, "a{2}{", api.FlagPerl, `a{2}\{`)
}

// TestDocument: of the ten examples of the whole those whose patterns are trees.
func TestDocument(t *testing.T) {
	for pattern, want := range map[string]string{
		"(a|ab)(c|bcd)?": "(a|ab)(c|bcd)?",
		"a|ab":           "a|ab",
		"(|a)+":          "((?:)|a)+",
		"(?:a*?)*":       "(?:a*?)*",
		"(a*)+b":         "(a*)+b",
		"a*":             "a*",
		"(?i)k":          `[\x{4b}\x{6b}\x{212a}]`,
		`\b`:             `\b`,
		"(?P<x>a)(b)?":   "(?P<x>a)(b)?",
	} {
		readPrints(t, pattern, api.FlagPerl, want)
	}
}

// TestPatterns: patterns and their texts, under flags that change what stands there.
func TestPatterns(t *testing.T) {
	for _, x := range []struct {
		pattern string
		f       api.Flag
		want    string
	}{
		{"", 0, "(?:)"}, {"", api.FlagLit, "(?:)"}, {"a*", api.FlagLit, `a\*`}, {"(?:", api.FlagLit, `\(\?:`}, {"k.", api.FlagLit | api.FlagFold, `[\x{4b}\x{6b}\x{212a}]\.`},
		{"^$", 0, `\A\z`}, {"^$", api.FlagMulti, `(?m:^)(?m:$)`}, {"(?-m)^(?m)$", api.FlagPerl | api.FlagMulti, `\A(?m:$)`}, {".", api.FlagDot, `[\x{0}-\x{10ffff}]`}, {"(?s).", api.FlagPerl, `[\x{0}-\x{10ffff}]`},
		{"a*b+c?d{2}", 0, "a*b+c?d{2}"}, {"a*b+c?d{2}", api.FlagSwap, "a*?b+?c??d{2}?"}, {"a*?b+", api.FlagSwap | api.FlagPerl, "a*b+?"}, {"a{2,}?", api.FlagPerl, "a{2,}?"}, {"a{00,0010}", 0, "a{0,10}"}, {"a{3,3}", 0, "a{3}"},
		{"(?<x>a)", api.FlagPerl, "(?P<x>a)"}, {"(a(b)|c)", 0, "(a(b)|c)"}, {"(?:a)", api.FlagPerl, "a"}, {"(?:a|b)", api.FlagPerl, "a|b"}, {"(?:a|b)|c", api.FlagPerl, "a|b|c"}, {"(?:ab)c", api.FlagPerl, "abc"}, {"(?:ab)*c", api.FlagPerl, "(?:ab)*c"}, {"(?:a|b)c", api.FlagPerl, "(?:a|b)c"}, {"a(?i)*", api.FlagPerl, "a*"}, {"a*(?i)*", api.FlagPerl, "(?:a*)*"},
		{`[a-c\d]`, api.FlagPerl, `[\x{30}-\x{39}\x{61}-\x{63}]`}, {"[^a]", 0, `[\x{0}-\x{60}\x{62}-\x{10ffff}]`}, {"[a]", 0, `[\x{61}]`}, {`\P{Any}`, 0, `[^\x{0}-\x{10ffff}]`}, {`[^\x{0}-\x{10ffff}]`, 0, `[^\x{0}-\x{10ffff}]`}, {`\p{^Any}*`, 0, `[^\x{0}-\x{10ffff}]*`}, {`\pZ`, 0, `[\x{20}\x{a0}\x{2000}-\x{200a}\x{2028}-\x{2029}\x{202f}\x{3000}]`},
		{"a\tb\u00e9", 0, `a\x{9}b\x{e9}`}, {`\x{41}\x7e\x7f`, 0, `A~\x{7f}`}, {`\Qa|b\E+`, api.FlagPerl, `a\|b+`}, {"a]b}c-d", 0, `a\]b\}c-d`}, {"||a|", 0, "(?:)|(?:)|a|(?:)"}, {"()", 0, "((?:))"}, {"(|)", 0, "((?:)|(?:))"},
	} {
		readPrints(t, x.pattern, x.f, x.want)
	}
}

// TestEmpty: P9.1: what is empty, and what fits nothing, wherever it stands.
func TestEmpty(t *testing.T) {
	const nothing = `[^\x{0}-\x{10ffff}]`
	for _, x := range []struct {
		tree api.Tree
		want string
	}{
		{none(), nothing}, {empty(), "(?:)"}, {cat(), "(?:)"}, {cat(none()), nothing}, {cat(empty()), "(?:)"}, {cat(cat()), "(?:)"}, {alt(empty()), "(?:)"}, {alt(cat()), "(?:)"}, {alt(none()), nothing},
		{cat(empty(), empty()), "(?:)(?:)"}, {cat(cat(), empty(), cat()), "(?:)(?:)(?:)"}, {alt(empty(), empty()), "(?:)|(?:)"}, {alt(cat(), letter('a'), empty()), "(?:)|a|(?:)"}, {alt(letter('a'), cat()), "a|(?:)"}, {cat(letter('a'), cat(), letter('b')), "a(?:)b"}, {cat(none(), empty(), none()), nothing + "(?:)" + nothing}, {alt(none(), none()), nothing + "|" + nothing},
		{star(none()), nothing + "*"}, {star(empty()), "(?:)*"}, {star(cat()), "(?:)*"}, {lazy(plus(cat())), "(?:)+?"}, {quest(alt(cat(cat()))), "(?:)?"}, {repeat(0, 0, cat()), "(?:){0}"}, {repeat(1, -1, none()), nothing + "{1,}"}, {star(cat(cat(), cat())), "(?:(?:)(?:))*"}, {star(alt(empty(), cat())), "(?:(?:)|(?:))*"},
		{grp(1, "", empty()), "((?:))"}, {grp(1, "", cat()), "((?:))"}, {grp(1, "x", cat()), "(?P<x>(?:))"}, {grp(1, "", none()), "(" + nothing + ")"}, {grp(1, "", alt(cat(), cat())), "((?:)|(?:))"},
	} {
		prints(t, x.tree, x.want)
		again(t, x.tree)
	}
}

// TestOneKid: P9.1: an OpCat, an OpAlt of one Kid is written as that Kid, and counts as it, also one in another.
func TestOneKid(t *testing.T) {
	a, b := letter('a'), letter('b')
	for _, one := range []func(api.Tree) api.Tree{
		func(kid api.Tree) api.Tree { return cat(kid) },
		func(kid api.Tree) api.Tree { return alt(kid) },
		func(kid api.Tree) api.Tree { return cat(alt(kid)) },
		func(kid api.Tree) api.Tree { return alt(cat(kid)) },
		func(kid api.Tree) api.Tree { return cat(cat(kid)) },
		func(kid api.Tree) api.Tree { return alt(alt(cat(alt(kid)))) },
	} {
		for _, x := range []struct {
			tree api.Tree
			want string
		}{
			{one(a), "a"}, {one(none()), `[^\x{0}-\x{10ffff}]`}, {one(at(4)), "(?m:^)"}, {one(star(a)), "a*"}, {one(grp(1, "", a)), "(a)"}, {one(cat(a, b)), "ab"}, {one(alt(a, b)), "a|b"}, {one(set('a', 'c')), `[\x{61}-\x{63}]`},
			{star(one(a)), "a*"}, {plus(one(grp(1, "x", a))), "(?P<x>a)+"}, {quest(one(empty())), "(?:)?"}, {star(one(star(a))), "(?:a*)*"}, {lazy(plus(one(lazy(quest(a))))), "(?:a??)+?"}, {repeat(2, 3, one(repeat(4, 5, a))), "(?:a{4,5}){2,3}"}, {star(one(cat(a, b))), "(?:ab)*"}, {star(one(alt(a, b))), "(?:a|b)*"}, {star(one(at(8))), "(?m:$)*"},
			{cat(one(a), b), "ab"}, {cat(one(alt(a, b)), b), "(?:a|b)b"}, {cat(b, one(alt(a, b))), "b(?:a|b)"}, {cat(one(cat(a, b)), b), "abb"}, {cat(one(star(a)), b), "a*b"},
			{alt(one(a), b), "a|b"}, {alt(one(alt(a, b)), b), "a|b|b"}, {alt(b, one(alt(a, b))), "b|a|b"}, {alt(one(cat(a, b)), b), "ab|b"}, {alt(b, one(cat())), "b|(?:)"},
			{grp(1, "", one(a)), "(a)"}, {grp(1, "", one(alt(a, b))), "(a|b)"}, {grp(1, "", one(cat(a, b))), "(ab)"}, {grp(1, "", one(grp(2, "", a))), "((a))"}, {star(grp(1, "", one(alt(a, b)))), "(a|b)*"},
		} {
			prints(t, x.tree, x.want)
			again(t, x.tree)
		}
	}
}

// TestSeveral: P9.1: parts one behind the other, and one or the other, in each other.
func TestSeveral(t *testing.T) {
	a, b, c, d := letter('a'), letter('b'), letter('c'), letter('d')
	for _, x := range []struct {
		tree api.Tree
		want string
	}{
		{cat(a, b), "ab"}, {cat(a, b, c, d), "abcd"}, {cat(cat(a, b), cat(c, d)), "abcd"}, {cat(a, cat(b, cat(c, d))), "abcd"}, {cat(star(a), plus(b), quest(c)), "a*b+c?"}, {cat(grp(1, "", a), grp(2, "", b)), "(a)(b)"},
		{alt(a, b), "a|b"}, {alt(a, b, c, d), "a|b|c|d"}, {alt(alt(a, b), alt(c, d)), "a|b|c|d"}, {alt(a, alt(b, alt(c, d))), "a|b|c|d"}, {alt(star(a), lazy(plus(b)), quest(c)), "a*|b+?|c?"}, {alt(grp(1, "", a), grp(2, "", b)), "(a)|(b)"},
		{cat(alt(a, b), c), "(?:a|b)c"}, {cat(c, alt(a, b)), "c(?:a|b)"}, {cat(c, alt(a, b), d), "c(?:a|b)d"}, {cat(alt(a, b), alt(c, d)), "(?:a|b)(?:c|d)"}, {cat(cat(alt(a, b), c), d), "(?:a|b)cd"}, {cat(a, cat(b, alt(c, d))), "ab(?:c|d)"},
		{alt(cat(a, b), c), "ab|c"}, {alt(c, cat(a, b)), "c|ab"}, {alt(cat(a, b), cat(c, d)), "ab|cd"}, {alt(cat(alt(a, b), c), d), "(?:a|b)c|d"}, {alt(a, cat(b, alt(c, cat(d, a)))), "a|b(?:c|da)"}, {cat(alt(cat(a, b), alt(c, d)), a), "(?:ab|c|d)a"},
		{cat(alt(empty(), a), b), "(?:(?:)|a)b"}, {cat(grp(1, "", alt(a, b)), c), "(a|b)c"}, {grp(1, "", cat(alt(a, b), c)), "((?:a|b)c)"}, {grp(1, "", alt(cat(a, b), c)), "(ab|c)"}, {cat(at(1), alt(at(4), at(8)), at(2)), `\A(?:(?m:^)|(?m:$))\z`},
	} {
		prints(t, x.tree, x.want)
		again(t, x.tree)
	}
}

// TestGroups: P9.1: with a name and without; whatever stands in one stands as it is.
func TestGroups(t *testing.T) {
	a, b := letter('a'), letter('b')
	for _, x := range []struct {
		tree api.Tree
		want string
	}{
		{grp(1, "", a), "(a)"}, {grp(1, "x", a), "(?P<x>a)"}, {grp(1, "P", a), "(?P<P>a)"}, {grp(1, "_9", cat(a, b)), "(?P<_9>ab)"}, {grp(1, "Name_1", alt(a, b)), "(?P<Name_1>a|b)"}, {grp(1, "", alt(a, b)), "(a|b)"}, {grp(1, "", star(a)), "(a*)"}, {grp(1, "", grp(2, "", grp(3, "", a))), "(((a)))"}, {grp(1, "x", grp(2, "", grp(3, "y", a))), "(?P<x>((?P<y>a)))"},
		{cat(grp(1, "x", a), grp(2, "", b), grp(3, "X", a)), "(?P<x>a)(b)(?P<X>a)"}, {alt(grp(1, "", a), cat(grp(2, "y", b), a)), "(a)|(?P<y>b)a"}, {star(grp(1, "", a)), "(a)*"}, {lazy(repeat(2, 3, grp(1, "x", alt(a, b)))), "(?P<x>a|b){2,3}?"}, {plus(grp(1, "", cat(grp(2, "", a), star(grp(3, "z", b))))), "((a)(?P<z>b)*)+"},
	} {
		prints(t, x.tree, x.want)
		again(t, x.tree)
	}
	long := "abcdefghijklmnopqrstuvwxyz_01234"
	readPrints(t, "(?<"+long+">a)", api.FlagPerl, "(?P<"+long+">a)")
}
