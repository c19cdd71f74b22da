package prefix_test

import (
	"math"
	"testing"

	"martello/api"
	. "martello/samples"
)

// TestExamples: the chapter's table.
func TestExamples(t *testing.T) {
	begins(t, Parsed(t, "ab(c)d*"), "abc", false)
	begins(t, Parsed(t, "(ab)c"), "abc", true)
	begins(t, Parsed(t, "a+b"), "a", false)
}

// TestLeaves: F1: each Op without Kids.
func TestLeaves(t *testing.T) {
	begins(t, Empty(), "", true)
	begins(t, None(), "", false)
	for _, c := range []rune{0, 1, '\n', 'a', 'Z', 0x7f, 0x80, 0xff, 0x212a, 0xd800, 0xdfff, 0xfffd, 0xffff, 0x10000, 0x10ffff} {
		has(t, Letter(c), []rune{c}, true)
	}
	for _, set := range []api.Tree{Set('a', 'a'), Set('a', 'b'), Set(0, 0x10ffff), Set('a', 'a', 'c', 'c')} {
		begins(t, set, "", false) // a set of just one rune is no OpRune
	}
	for _, at := range SixAts() {
		begins(t, At(at), "", false)
	}
}

// TestGroups: F1: a group is its Kid, whatever its number and its name.
func TestGroups(t *testing.T) {
	for _, n := range []int{1, 2, 2000, 2001, math.MaxInt} {
		for _, name := range []string{"", "x"} {
			begins(t, Group(n, name, Letter('a')), "a", true)
			begins(t, Group(n, name, Empty()), "", true)
			begins(t, Group(n, name, None()), "", false)
			begins(t, Group(n, name, Plus(Letter('a'))), "a", false)
			begins(t, Group(n, name, Group(1, "", Cat(Letter('a'), Letter('b')))), "ab", true)
			begins(t, Cat(Letter('x'), Group(n, name, Cat(Letter('a'), Star(Letter('b')))), Letter('c')), "xa", false)
		}
	}
}

// TestRows: F1: of an OpCat, up to the first Kid that is not exact, and that one's too.
func TestRows(t *testing.T) {
	a, b, c := Letter('a'), Letter('b'), Letter('c')
	begins(t, Cat(), "", true)
	begins(t, Cat(a), "a", true)
	begins(t, Cat(a, b, c), "abc", true)
	begins(t, Cat(Cat(a, b), Cat(), Cat(c, a)), "abca", true)
	begins(t, Cat(Empty(), a, Empty(), b, Empty()), "ab", true)
	begins(t, Cat(Empty(), Cat(), Empty()), "", true)
	begins(t, Cat(Plus(a), b), "a", false)
	begins(t, Cat(a, Plus(b), c), "ab", false)
	begins(t, Cat(a, b, Plus(c)), "abc", false)
	begins(t, Cat(a, Plus(Cat(b, c)), Plus(a)), "abc", false)
	begins(t, Cat(a, Cat(b, Plus(c)), a), "abc", false)
	begins(t, Cat(Cat(a, Cat(b, Plus(c), a), a), b), "abc", false)
	for _, open := range []api.Tree{None(), Set('a', 'a'), At(api.AtBegin), At(api.AtNoWord), Star(a), Quest(a), Repeat(0, 1, a), Alt(a, a), Star(Empty())} {
		begins(t, Cat(open), "", false)
		begins(t, Cat(open, a), "", false)
		begins(t, Cat(a, open), "a", false)
		begins(t, Cat(a, open, b), "a", false)
		begins(t, Cat(a, Cat(open, b), c), "a", false)
		begins(t, Cat(a, Cat(b, open), c), "ab", false)
		begins(t, Cat(Empty(), open, b), "", false)
	}
}

// TestChoices: F1: of one Kid it is the Kid; of more there is none, not even one that all have.
func TestChoices(t *testing.T) {
	a, b := Letter('a'), Letter('b')
	begins(t, Alt(a), "a", true)
	begins(t, Alt(Empty()), "", true)
	begins(t, Alt(None()), "", false)
	begins(t, Alt(Plus(a)), "a", false)
	begins(t, Alt(Alt(Cat(a, b))), "ab", true)
	begins(t, Cat(a, Alt(Cat(b, Star(a))), b), "ab", false)
	for _, choice := range []api.Tree{Alt(a, b), Alt(a, a), Alt(Cat(a, b), Cat(a, b)), Alt(Empty(), Empty()), Alt(a, None()), Alt(None(), a), Alt(a, Empty()), Alt(a, a, a)} {
		begins(t, choice, "", false)
		begins(t, Cat(b, choice, b), "b", false)
	}
}

// TestRepeats: F1: of an OpPlus, and of a count above 0, the Kid's, never exact; of all other repeats there is none. Lazy or not.
func TestRepeats(t *testing.T) {
	a, ab := Letter('a'), Cat(Letter('a'), Letter('b'))
	for _, lazy := range []func(api.Tree) api.Tree{func(kid api.Tree) api.Tree { return kid }, Lazy} {
		begins(t, lazy(Plus(a)), "a", false)
		begins(t, lazy(Plus(ab)), "ab", false)
		begins(t, lazy(Plus(Empty())), "", false)
		begins(t, lazy(Plus(None())), "", false)
		begins(t, lazy(Plus(lazy(Plus(ab)))), "ab", false)
		begins(t, lazy(Plus(Cat(a, Quest(a)))), "a", false)
		for _, kid := range []api.Tree{a, ab, Empty(), None(), Plus(a), Group(1, "", a)} {
			begins(t, lazy(Star(kid)), "", false)
			begins(t, lazy(Quest(kid)), "", false)
			for _, most := range []int{-1, 0, 1, 2, 1000} {
				begins(t, lazy(Repeat(0, most, kid)), "", false)
			}
		}
		for _, c := range [][2]int{{1, 1}, {1, 2}, {1, -1}, {1, 1000}, {2, 2}, {2, 3}, {2, -1}, {999, 1000}, {1000, 1000}, {1000, -1}} {
			begins(t, lazy(Repeat(c[0], c[1], a)), "a", false)
			begins(t, lazy(Repeat(c[0], c[1], ab)), "ab", false)
			begins(t, lazy(Repeat(c[0], c[1], Empty())), "", false)
			begins(t, lazy(Repeat(c[0], c[1], Star(a))), "", false)
			begins(t, Cat(a, lazy(Repeat(c[0], c[1], ab)), a), "aab", false)
		}
	}
}

// TestPatterns: F1: of trees that syntax reads.
func TestPatterns(t *testing.T) {
	for _, x := range []struct {
		pattern, want string
		exact         bool
	}{
		{"", "", true}, {"a", "a", true}, {"é世\n", "é世\n", true}, {`\x{41}\.\n`, "A.\n", true}, {`\Qa*b\E`, "a*b", true}, {"(?:ab)", "ab", true}, {"()", "", true}, {"(a)(b)", "ab", true}, {"(?P<x>a(b)c)d", "abcd", true}, {"(?:)a(?:)", "a", true}, {"((((a))))", "a", true},
		{"^ab", "", false}, {"ab$", "ab", false}, {`\Aab\z`, "", false}, {`a\bb`, "a", false}, {"a.b", "a", false}, {"a[b]c", "a", false}, {"a|b", "", false}, {"ab|ab", "", false}, {"a(?:b|b)", "a", false}, {"(ab)*", "", false}, {"ab*", "a", false}, {"ab+c", "ab", false}, {"(ab)+c", "ab", false}, {"(a(b)+?c)d", "ab", false}, {"ab?", "a", false}, {"ab{2}c", "ab", false}, {"a(?:bc){2,}", "abc", false}, {"a(?:bc){0,3}", "a", false}, {"ab{1}c", "ab", false}, {"(?:ab{2}c){3}d", "ab", false}, {"(?i)1a", "1", false}, {"(?i)12", "12", true}, {"1(?i:k)2", "1", false}, {`[^\x{0}-\x{10ffff}]a`, "", false}, {`a\PL`, "a", false},
	} {
		begins(t, Parsed(t, x.pattern), x.want, x.exact)
	}
}
