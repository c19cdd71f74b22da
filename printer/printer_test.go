package printer_test

import (
	"testing"

	"martello/api"
	"martello/printer"
	. "martello/samples"
	"martello/syntax"
)

// The call of the chapter, by its signature.
var _ func(api.Tree) (string, api.Errno) = printer.Print

// readPrints holds Print of a pattern's tree against its text.
func readPrints(t *testing.T, pattern string, f api.Flag, want string) {
	t.Helper()
	tree, wrong := syntax.Parse(pattern, f)
	if wrong.E != api.OK {
		t.Fatalf("Parse(%q, %d): %+v", pattern, f, wrong)
	}
	prints(t, tree, want)
	again(t, tree)
}

// TestExamples: the chapter's table.
func TestExamples(t *testing.T) {
	readPrints(t, "a.b", api.FlagPerl, `a[\x{0}-\x{9}\x{b}-\x{10ffff}]b`)
	readPrints(t, "(?i)k+?", api.FlagPerl, `[\x{4b}\x{6b}\x{212a}]+?`)
	readPrints(t, "(?:ab|)*", api.FlagPerl, `(?:ab|(?:))*`)
	readPrints(t, "a{2}{", api.FlagPerl, `a{2}\{`)
}

// TestDocument: of the ten examples of the whole those whose patterns are trees.
func TestDocument(t *testing.T) {
	for pattern, want := range map[string]string{
		"(a|ab)(c|bcd)?": "(a|ab)(c|bcd)?",
		"a|ab":           "a|ab",
		"(|a)+":          "((?:)|a)+",
		"(?:a*?)*":       "(?:a*?)*",
		"(a*)+b":         "(a*)+b",
		"a*":             "a*",
		"(?i)k":          `[\x{4b}\x{6b}\x{212a}]`,
		`\b`:             `\b`,
		"(?P<x>a)(b)?":   "(?P<x>a)(b)?",
	} {
		readPrints(t, pattern, api.FlagPerl, want)
	}
}

// TestPatterns: patterns and their texts, under flags that change what stands there.
func TestPatterns(t *testing.T) {
	for _, x := range []struct {
		pattern string
		f       api.Flag
		want    string
	}{
		{"", 0, "(?:)"}, {"", api.FlagLit, "(?:)"}, {"a*", api.FlagLit, `a\*`}, {"(?:", api.FlagLit, `\(\?:`}, {"k.", api.FlagLit | api.FlagFold, `[\x{4b}\x{6b}\x{212a}]\.`},
		{"^$", 0, `\A\z`}, {"^$", api.FlagMulti, `(?m:^)(?m:$)`}, {"(?-m)^(?m)$", api.FlagPerl | api.FlagMulti, `\A(?m:$)`}, {".", api.FlagDot, `[\x{0}-\x{10ffff}]`}, {"(?s).", api.FlagPerl, `[\x{0}-\x{10ffff}]`},
		{"a*b+c?d{2}", 0, "a*b+c?d{2}"}, {"a*b+c?d{2}", api.FlagSwap, "a*?b+?c??d{2}?"}, {"a*?b+", api.FlagSwap | api.FlagPerl, "a*b+?"}, {"a{2,}?", api.FlagPerl, "a{2,}?"}, {"a{00,0010}", 0, "a{0,10}"}, {"a{3,3}", 0, "a{3}"},
		{"(?<x>a)", api.FlagPerl, "(?P<x>a)"}, {"(a(b)|c)", 0, "(a(b)|c)"}, {"(?:a)", api.FlagPerl, "a"}, {"(?:a|b)", api.FlagPerl, "a|b"}, {"(?:a|b)|c", api.FlagPerl, "a|b|c"}, {"(?:ab)c", api.FlagPerl, "abc"}, {"(?:ab)*c", api.FlagPerl, "(?:ab)*c"}, {"(?:a|b)c", api.FlagPerl, "(?:a|b)c"}, {"a(?i)*", api.FlagPerl, "a*"}, {"a*(?i)*", api.FlagPerl, "(?:a*)*"},
		{`[a-c\d]`, api.FlagPerl, `[\x{30}-\x{39}\x{61}-\x{63}]`}, {"[^a]", 0, `[\x{0}-\x{60}\x{62}-\x{10ffff}]`}, {"[a]", 0, `[\x{61}]`}, {`\P{Any}`, 0, `[^\x{0}-\x{10ffff}]`}, {`[^\x{0}-\x{10ffff}]`, 0, `[^\x{0}-\x{10ffff}]`}, {`\p{^Any}*`, 0, `[^\x{0}-\x{10ffff}]*`}, {`\pZ`, 0, `[\x{20}\x{a0}\x{2000}-\x{200a}\x{2028}-\x{2029}\x{202f}\x{3000}]`},
		{"a\tb\u00e9", 0, `a\x{9}b\x{e9}`}, {`\x{41}\x7e\x7f`, 0, `A~\x{7f}`}, {`\Qa|b\E+`, api.FlagPerl, `a\|b+`}, {"a]b}c-d", 0, `a\]b\}c-d`}, {"||a|", 0, "(?:)|(?:)|a|(?:)"}, {"()", 0, "((?:))"}, {"(|)", 0, "((?:)|(?:))"},
	} {
		readPrints(t, x.pattern, x.f, x.want)
	}
}

// TestEmpty: P9.1: what is empty, and what fits nothing, wherever it stands.
func TestEmpty(t *testing.T) {
	const nothing = `[^\x{0}-\x{10ffff}]`
	for _, x := range []struct {
		tree api.Tree
		want string
	}{
		{None(), nothing}, {Empty(), "(?:)"}, {Cat(), "(?:)"}, {Cat(None()), nothing}, {Cat(Empty()), "(?:)"}, {Cat(Cat()), "(?:)"}, {Alt(Empty()), "(?:)"}, {Alt(Cat()), "(?:)"}, {Alt(None()), nothing},
		{Cat(Empty(), Empty()), "(?:)(?:)"}, {Cat(Cat(), Empty(), Cat()), "(?:)(?:)(?:)"}, {Alt(Empty(), Empty()), "(?:)|(?:)"}, {Alt(Cat(), Letter('a'), Empty()), "(?:)|a|(?:)"}, {Alt(Letter('a'), Cat()), "a|(?:)"}, {Cat(Letter('a'), Cat(), Letter('b')), "a(?:)b"}, {Cat(None(), Empty(), None()), nothing + "(?:)" + nothing}, {Alt(None(), None()), nothing + "|" + nothing},
		{Star(None()), nothing + "*"}, {Star(Empty()), "(?:)*"}, {Star(Cat()), "(?:)*"}, {Lazy(Plus(Cat())), "(?:)+?"}, {Quest(Alt(Cat(Cat()))), "(?:)?"}, {Repeat(0, 0, Cat()), "(?:){0}"}, {Repeat(1, -1, None()), nothing + "{1,}"}, {Star(Cat(Cat(), Cat())), "(?:(?:)(?:))*"}, {Star(Alt(Empty(), Cat())), "(?:(?:)|(?:))*"},
		{Group(1, "", Empty()), "((?:))"}, {Group(1, "", Cat()), "((?:))"}, {Group(1, "x", Cat()), "(?P<x>(?:))"}, {Group(1, "", None()), "(" + nothing + ")"}, {Group(1, "", Alt(Cat(), Cat())), "((?:)|(?:))"},
	} {
		prints(t, x.tree, x.want)
		again(t, x.tree)
	}
}

// TestOneKid: P9.1: an OpCat, an OpAlt of one Kid is written as that Kid, and counts as it, also one in another.
func TestOneKid(t *testing.T) {
	a, b := Letter('a'), Letter('b')
	for _, one := range []func(api.Tree) api.Tree{
		func(kid api.Tree) api.Tree { return Cat(kid) },
		func(kid api.Tree) api.Tree { return Alt(kid) },
		func(kid api.Tree) api.Tree { return Cat(Alt(kid)) },
		func(kid api.Tree) api.Tree { return Alt(Cat(kid)) },
		func(kid api.Tree) api.Tree { return Cat(Cat(kid)) },
		func(kid api.Tree) api.Tree { return Alt(Alt(Cat(Alt(kid)))) },
	} {
		for _, x := range []struct {
			tree api.Tree
			want string
		}{
			{one(a), "a"}, {one(None()), `[^\x{0}-\x{10ffff}]`}, {one(At(4)), "(?m:^)"}, {one(Star(a)), "a*"}, {one(Group(1, "", a)), "(a)"}, {one(Cat(a, b)), "ab"}, {one(Alt(a, b)), "a|b"}, {one(Set('a', 'c')), `[\x{61}-\x{63}]`},
			{Star(one(a)), "a*"}, {Plus(one(Group(1, "x", a))), "(?P<x>a)+"}, {Quest(one(Empty())), "(?:)?"}, {Star(one(Star(a))), "(?:a*)*"}, {Lazy(Plus(one(Lazy(Quest(a))))), "(?:a??)+?"}, {Repeat(2, 3, one(Repeat(4, 5, a))), "(?:a{4,5}){2,3}"}, {Star(one(Cat(a, b))), "(?:ab)*"}, {Star(one(Alt(a, b))), "(?:a|b)*"}, {Star(one(At(8))), "(?m:$)*"},
			{Cat(one(a), b), "ab"}, {Cat(one(Alt(a, b)), b), "(?:a|b)b"}, {Cat(b, one(Alt(a, b))), "b(?:a|b)"}, {Cat(one(Cat(a, b)), b), "abb"}, {Cat(one(Star(a)), b), "a*b"},
			{Alt(one(a), b), "a|b"}, {Alt(one(Alt(a, b)), b), "a|b|b"}, {Alt(b, one(Alt(a, b))), "b|a|b"}, {Alt(one(Cat(a, b)), b), "ab|b"}, {Alt(b, one(Cat())), "b|(?:)"},
			{Group(1, "", one(a)), "(a)"}, {Group(1, "", one(Alt(a, b))), "(a|b)"}, {Group(1, "", one(Cat(a, b))), "(ab)"}, {Group(1, "", one(Group(2, "", a))), "((a))"}, {Star(Group(1, "", one(Alt(a, b)))), "(a|b)*"},
		} {
			prints(t, x.tree, x.want)
			again(t, x.tree)
		}
	}
}

// TestSeveral: P9.1: parts one behind the other, and one or the other, in each other.
func TestSeveral(t *testing.T) {
	a, b, c, d := Letter('a'), Letter('b'), Letter('c'), Letter('d')
	for _, x := range []struct {
		tree api.Tree
		want string
	}{
		{Cat(a, b), "ab"}, {Cat(a, b, c, d), "abcd"}, {Cat(Cat(a, b), Cat(c, d)), "abcd"}, {Cat(a, Cat(b, Cat(c, d))), "abcd"}, {Cat(Star(a), Plus(b), Quest(c)), "a*b+c?"}, {Cat(Group(1, "", a), Group(2, "", b)), "(a)(b)"},
		{Alt(a, b), "a|b"}, {Alt(a, b, c, d), "a|b|c|d"}, {Alt(Alt(a, b), Alt(c, d)), "a|b|c|d"}, {Alt(a, Alt(b, Alt(c, d))), "a|b|c|d"}, {Alt(Star(a), Lazy(Plus(b)), Quest(c)), "a*|b+?|c?"}, {Alt(Group(1, "", a), Group(2, "", b)), "(a)|(b)"},
		{Cat(Alt(a, b), c), "(?:a|b)c"}, {Cat(c, Alt(a, b)), "c(?:a|b)"}, {Cat(c, Alt(a, b), d), "c(?:a|b)d"}, {Cat(Alt(a, b), Alt(c, d)), "(?:a|b)(?:c|d)"}, {Cat(Cat(Alt(a, b), c), d), "(?:a|b)cd"}, {Cat(a, Cat(b, Alt(c, d))), "ab(?:c|d)"},
		{Alt(Cat(a, b), c), "ab|c"}, {Alt(c, Cat(a, b)), "c|ab"}, {Alt(Cat(a, b), Cat(c, d)), "ab|cd"}, {Alt(Cat(Alt(a, b), c), d), "(?:a|b)c|d"}, {Alt(a, Cat(b, Alt(c, Cat(d, a)))), "a|b(?:c|da)"}, {Cat(Alt(Cat(a, b), Alt(c, d)), a), "(?:ab|c|d)a"},
		{Cat(Alt(Empty(), a), b), "(?:(?:)|a)b"}, {Cat(Group(1, "", Alt(a, b)), c), "(a|b)c"}, {Group(1, "", Cat(Alt(a, b), c)), "((?:a|b)c)"}, {Group(1, "", Alt(Cat(a, b), c)), "(ab|c)"}, {Cat(At(1), Alt(At(4), At(8)), At(2)), `\A(?:(?m:^)|(?m:$))\z`},
	} {
		prints(t, x.tree, x.want)
		again(t, x.tree)
	}
}

// TestGroups: P9.1: with a name and without; whatever stands in one stands as it is.
func TestGroups(t *testing.T) {
	a, b := Letter('a'), Letter('b')
	for _, x := range []struct {
		tree api.Tree
		want string
	}{
		{Group(1, "", a), "(a)"}, {Group(1, "x", a), "(?P<x>a)"}, {Group(1, "P", a), "(?P<P>a)"}, {Group(1, "_9", Cat(a, b)), "(?P<_9>ab)"}, {Group(1, "Name_1", Alt(a, b)), "(?P<Name_1>a|b)"}, {Group(1, "", Alt(a, b)), "(a|b)"}, {Group(1, "", Star(a)), "(a*)"}, {Group(1, "", Group(2, "", Group(3, "", a))), "(((a)))"}, {Group(1, "x", Group(2, "", Group(3, "y", a))), "(?P<x>((?P<y>a)))"},
		{Cat(Group(1, "x", a), Group(2, "", b), Group(3, "X", a)), "(?P<x>a)(b)(?P<X>a)"}, {Alt(Group(1, "", a), Cat(Group(2, "y", b), a)), "(a)|(?P<y>b)a"}, {Star(Group(1, "", a)), "(a)*"}, {Lazy(Repeat(2, 3, Group(1, "x", Alt(a, b)))), "(?P<x>a|b){2,3}?"}, {Plus(Group(1, "", Cat(Group(2, "", a), Star(Group(3, "z", b))))), "((a)(?P<z>b)*)+"},
	} {
		prints(t, x.tree, x.want)
		again(t, x.tree)
	}
	long := "abcdefghijklmnopqrstuvwxyz_01234"
	readPrints(t, "(?<"+long+">a)", api.FlagPerl, "(?P<"+long+">a)")
}
