package simplify_test

import (
	"testing"

	"martello/api"
	"martello/printer"
	. "martello/samples"
	"martello/simplify"
	"martello/syntax"
)

// The call of the chapter, by its signature.
var _ func(api.Tree) api.Tree = simplify.Simple

// read is the tree of a pattern.
func read(t *testing.T, pattern string, f api.Flag) api.Tree {
	t.Helper()
	tree, wrong := syntax.Parse(pattern, f)
	if wrong.E != api.OK {
		t.Fatalf("Parse(%q, %d): %+v", pattern, f, wrong)
	}
	return tree
}

// TestExamples: the chapter's table.
func TestExamples(t *testing.T) {
	a, b := Letter('a'), Letter('b')
	simple(t, read(t, "a{2,4}", api.FlagPerl), Cat(a, a, Quest(Cat(a, Quest(a)))))
	simple(t, read(t, "(?:a{0}|b)(?:^)*", api.FlagPerl), Alt(Empty(), b))
	simple(t, read(t, "a{2,}?", api.FlagPerl), Cat(a, Lazy(Plus(a))))
}

// TestTexts: patterns, and the texts of what is made of them; of the ten examples of the whole each that is a tree, first.
func TestTexts(t *testing.T) {
	for _, x := range []struct{ pattern, want string }{
		{"(a|ab)(c|bcd)?", "(a|ab)(c|bcd)?"}, {"a|ab", "a|ab"}, {"(|a)+", "((?:)|a)+"}, {"(?:a*?)*", "(?:a*?)*"}, {"(a*)+b", "(a*)+b"}, {"a*", "a*"}, {"(?i)k", `[\x{4b}\x{6b}\x{212a}]`}, {`\b`, `\b`}, {"(?P<x>a)(b)?", "(?P<x>a)(b)?"},
		{"", "(?:)"}, {"(?:)a(?:)", "a"}, {"a{2,4}", "aa(?:aa?)?"}, {"a{2,4}?", "aa(?:aa??)??"}, {"a{0}", "(?:)"}, {"a{1}", "a"}, {"a{3}", "aaa"}, {"a{3}?", "aaa"}, {"a{0,}", "a*"}, {"a{1,}", "a+"}, {"a{3,}", "aaa+"}, {"a{0,1}", "a?"}, {"a{0,2}", "(?:aa?)?"}, {"a{1,2}", "aa?"},
		{"(?:ab){2}c", "ababc"}, {"c(?:ab){2,3}", "cabab(?:ab)?"}, {"(?:ab){2,}", "ab(?:ab)+"}, {"(?:a|b){2}", "(?:a|b)(?:a|b)"}, {`\b{2,}`, `\b\b`}, {"(?:^*)*", "(?:)"}, {`(?:\b)+a`, `\ba`}, {`\b?`, `\b?`}, {`(?:a|[^\x{0}-\x{10ffff}])b`, "ab"}, {`[^\x{0}-\x{10ffff}]a`, `[^\x{0}-\x{10ffff}]`}, {`(?:[^\x{0}-\x{10ffff}]a)?b`, "b"},
	} {
		told := simplify.Simple(read(t, x.pattern, api.FlagPerl))
		if text, e := printer.Print(told); text != x.want || e != api.OK {
			t.Errorf("%s: %s, %d; not %s", x.pattern, text, e, x.want)
		}
	}
}

// TestLeaves: what has no Kids stays.
func TestLeaves(t *testing.T) {
	for _, tree := range []api.Tree{None(), Empty(), Letter('a'), Letter(0), Letter(0x10ffff), Set('a', 'a'), Set(0, 9, 'a', 'z'), Set(0, 0x10ffff), At(api.AtBegin), At(api.AtEnd), At(api.AtBeginLine), At(api.AtEndLine), At(api.AtWord), At(api.AtNoWord)} {
		simple(t, tree, tree)
	}
}

// TestGroup: a group stays, of what became of its Kid, but around None.
func TestGroup(t *testing.T) {
	a := Letter('a')
	for _, name := range []string{"", "x"} {
		simple(t, Group(1, name, a), Group(1, name, a))
		simple(t, Group(1, name, Empty()), Group(1, name, Empty()))
		simple(t, Group(1, name, At(1)), Group(1, name, At(1)))
		simple(t, Group(1, name, None()), None())
		simple(t, Group(1, name, Cat(a, None())), None())
		simple(t, Group(1, name, Cat()), Group(1, name, Empty()))
		simple(t, Group(1, name, Repeat(0, 0, a)), Group(1, name, Empty()))
		simple(t, Group(1, name, Group(2, "y", Cat(a))), Group(1, name, Group(2, "y", a)))
		simple(t, Group(1, name, Group(2, "", Alt(None(), None()))), None())
		simple(t, Cat(Group(1, name, Cat(a, a)), Group(2, "", a)), Cat(Group(1, name, Cat(a, a)), Group(2, "", a)))
	}
	simple(t, Cat(Alt(Group(1, "", None()), Group(2, "y", a)), Group(3, "", a)), Cat(Group(2, "y", a), Group(3, "", a)))
}

// TestCat: one behind the other.
func TestCat(t *testing.T) {
	a, b, c := Letter('a'), Letter('b'), Letter('c')
	for _, x := range []struct{ tree, want api.Tree }{
		{Cat(), Empty()}, {Cat(a), a}, {Cat(a, b), Cat(a, b)}, {Cat(Empty()), Empty()}, {Cat(Empty(), Empty()), Empty()}, {Cat(Empty(), a), a}, {Cat(a, Empty()), a}, {Cat(a, Empty(), b, Empty()), Cat(a, b)}, {Cat(None()), None()}, {Cat(a, None()), None()}, {Cat(None(), a), None()}, {Cat(a, None(), b), None()}, {Cat(Empty(), None()), None()}, {Cat(None(), Empty()), None()},
		{Cat(Cat()), Empty()}, {Cat(Cat(), Cat()), Empty()}, {Cat(Cat(a)), a}, {Cat(Cat(a), b), Cat(a, b)}, {Cat(Cat(a, b), c), Cat(a, b, c)}, {Cat(a, Cat(b, c)), Cat(a, b, c)}, {Cat(Cat(a, b), Cat(b, c)), Cat(a, b, b, c)}, {Cat(Cat(a, Cat(b, Cat(c, Cat())))), Cat(a, b, c)}, {Cat(a, Cat(b, None())), None()}, {Cat(a, Cat(Empty(), Cat(Empty())), b), Cat(a, b)},
		{Cat(Alt(a), Alt(b)), Cat(a, b)}, {Cat(Alt(Cat(a, b)), c), Cat(a, b, c)}, {Cat(Alt(a, b), c), Cat(Alt(a, b), c)}, {Cat(Alt(None(), Cat(a, b)), c), Cat(a, b, c)}, {Cat(a, Group(1, "", Cat(a, b)), c), Cat(a, Group(1, "", Cat(a, b)), c)}, {Cat(Star(Cat(a, b)), c), Cat(Star(Cat(a, b)), c)}, {Cat(Plus(Cat(At(1), At(2))), a), Cat(At(1), At(2), a)}, {Cat(a, Star(At(1)), b), Cat(a, b)}, {Cat(a, Quest(None()), b), Cat(a, b)},
		{Cat(At(1), At(1)), Cat(At(1), At(1))}, {Cat(Set(1, 2), Cat(Set(3, 4))), Cat(Set(1, 2), Set(3, 4))},
	} {
		simple(t, x.tree, x.want)
	}
}

// TestAlt: one or the other; an OpAlt in an OpAlt stays, and what is Empty stands.
func TestAlt(t *testing.T) {
	a, b, c := Letter('a'), Letter('b'), Letter('c')
	for _, x := range []struct{ tree, want api.Tree }{
		{Alt(a), a}, {Alt(a, b), Alt(a, b)}, {Alt(b, a), Alt(b, a)}, {Alt(a, a), Alt(a, a)}, {Alt(None()), None()}, {Alt(None(), None(), None()), None()}, {Alt(None(), a), a}, {Alt(a, None()), a}, {Alt(a, None(), b), Alt(a, b)}, {Alt(None(), a, None(), b, None()), Alt(a, b)},
		{Alt(Empty()), Empty()}, {Alt(Empty(), Empty()), Alt(Empty(), Empty())}, {Alt(Empty(), a), Alt(Empty(), a)}, {Alt(a, Empty()), Alt(a, Empty())}, {Alt(Empty(), None()), Empty()}, {Alt(Cat(), a), Alt(Empty(), a)}, {Alt(Cat(a, None()), Cat(b, c)), Cat(b, c)},
		{Alt(Alt(a, b), c), Alt(Alt(a, b), c)}, {Alt(a, Alt(b, c)), Alt(a, Alt(b, c))}, {Alt(Alt(a, None()), c), Alt(a, c)}, {Alt(Alt(None()), None()), None()}, {Alt(Alt(Alt(a))), a}, {Alt(Alt(a, b)), Alt(a, b)}, {Alt(None(), Alt(a, b)), Alt(a, b)},
		{Alt(Star(At(1)), a), Alt(Empty(), a)}, {Alt(Repeat(0, 0, a), b), Alt(Empty(), b)}, {Alt(Repeat(1, 1, None()), b), b}, {Alt(Star(None()), b), Alt(Empty(), b)}, {Alt(Group(1, "", None()), b), b},
	} {
		simple(t, x.tree, x.want)
	}
}

// TestStill: stars, pluses and question marks over what is still, and over what is not.
func TestStill(t *testing.T) {
	a, b := Letter('a'), Letter('b')
	for _, x := range []struct{ kid, becomes api.Tree }{
		{None(), None()}, {Empty(), Empty()}, {At(1), At(1)}, {At(32), At(32)}, {Group(1, "", At(1)), Group(1, "", At(1))}, {Group(1, "x", Empty()), Group(1, "x", Empty())}, {Group(1, "", None()), None()}, {Cat(At(1), At(2)), Cat(At(1), At(2))}, {Cat(Group(1, "", At(1)), Group(2, "", At(2))), Cat(Group(1, "", At(1)), Group(2, "", At(2)))}, {Cat(), Empty()}, {Cat(At(1), Empty()), At(1)}, {Cat(At(1), None()), None()},
		{Alt(At(1), At(2)), Alt(At(1), At(2))}, {Alt(At(1), Empty()), Alt(At(1), Empty())}, {Quest(At(1)), Quest(At(1))}, {Lazy(Quest(Group(1, "", At(1)))), Lazy(Quest(Group(1, "", At(1))))}, {Star(At(1)), Empty()}, {Plus(At(1)), At(1)}, {Repeat(0, 0, a), Empty()}, {Repeat(2, 2, At(1)), Cat(At(1), At(1))}, {Cat(a, None()), None()}, {Alt(Cat(a, None()), At(1)), At(1)},
	} {
		nothing := x.becomes.Op == api.OpNone || x.becomes.Op == api.OpEmpty
		for _, slow := range []bool{false, true} {
			with := func(tree api.Tree) api.Tree { tree.Lazy = slow; return tree }
			simple(t, with(Star(x.kid)), Empty())
			simple(t, with(Plus(x.kid)), x.becomes)
			if nothing {
				simple(t, with(Quest(x.kid)), Empty())
			} else {
				simple(t, with(Quest(x.kid)), with(Quest(x.becomes)))
			}
		}
	}
	for _, x := range []struct{ kid, becomes api.Tree }{
		{a, a}, {Set('a', 'b'), Set('a', 'b')}, {Cat(At(1), a), Cat(At(1), a)}, {Cat(a, Empty()), a}, {Alt(At(1), a), Alt(At(1), a)}, {Alt(Empty(), a), Alt(Empty(), a)}, {Alt(None(), a), a}, {Group(1, "x", a), Group(1, "x", a)}, {Group(1, "", Cat(At(1), Set(1, 2))), Group(1, "", Cat(At(1), Set(1, 2)))}, {Star(a), Star(a)}, {Plus(a), Plus(a)}, {Quest(a), Quest(a)}, {Lazy(Star(a)), Lazy(Star(a))}, {Cat(Cat(At(1), b), At(2)), Cat(At(1), b, At(2))}, {Repeat(2, 2, a), Cat(a, a)},
	} {
		for _, in := range []func(api.Tree) api.Tree{Star, Plus, Quest} {
			simple(t, in(x.kid), in(x.becomes))
			simple(t, Lazy(in(x.kid)), Lazy(in(x.becomes)))
		}
	}
}
