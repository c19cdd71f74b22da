package denote_test

import (
	"math"
	"slices"
	"testing"

	"martello/api"
	"martello/denote"
	. "martello/samples"
)

// TestGroups: a group's places, of those within others, and of those not met.
func TestGroups(t *testing.T) {
	told(t, "()", 1, "a", "0 0-0")
	told(t, "(a)", 1, "a", "1 0-1")
	told(t, "x(a)", 1, "xa", "2 1-2")
	told(t, "((a)(b))", 3, "ab", "2 0-2 0-1 1-2")
	told(t, "(a)|(b)", 2, "b", "1 . 0-1")
	told(t, "(a)|(b)", 2, "a", "1 0-1 .")
	told(t, "(a)?(b)?", 2, "b", "1 . 0-1, 0 . .")
	told(t, "(a*)(a*)", 2, "aa", "2 0-2 2-2, 1 0-1 1-1, 0 0-0 0-0")
	told(t, "(a*?)(a*)", 2, "aa", "2 0-0 0-2, 1 0-0 0-1, 0 0-0 0-0")
	told(t, `(\b)a`, 1, "a", "1 0-0")
	lists(t, Parsed(t, "(?P<x>a)(?P<y>b)"), 2, "xab", 1, "3 1-2 2-3")
}

// TestLastTime: groups within repeats have the places of the last time around, also of the times ahead of one that did not meet them.
func TestLastTime(t *testing.T) {
	told(t, "(a|b)*", 1, "ab", "2 1-2, 1 0-1, 0 .")
	told(t, "(?:(a)|(b))*", 2, "aba", "3 2-3 1-2, 2 0-1 1-2, 1 0-1 ., 0 . .")
	told(t, "(?:(a)|b)*", 1, "ab", "2 0-1, 1 0-1, 0 .")
	told(t, "(?:(a)|(b)){2}", 2, "ab", "2 0-1 1-2")
	told(t, "(a){0}b", 1, "b", "1 .")
	told(t, "(a){2,}?", 1, "aaa", "2 1-2, 3 2-3")
	told(t, "((a)|b)+", 2, "ab", "2 1-2 0-1, 1 0-1 0-1")
	told(t, "((a)?b)*", 2, "abb", "3 2-3 0-1, 2 0-2 0-1, 0 . .")
}

// TestPutBack: where a way goes no further, the next one has the groups from where both part.
func TestPutBack(t *testing.T) {
	told(t, "(?:(a)b|ac)", 1, "ac", "2 .")
	told(t, "(?:(a)b)?ac", 1, "ac", "2 .")
	told(t, "(?:(a)(b)x|a(b))", 3, "ab", "2 . . 1-2")
	told(t, "(?:(a)*b)?a*", 1, "aa", "2 ., 1 ., 0 .")
	told(t, "(?:(a)|b)*(?:ab|)", 1, "bab", "3 1-2, 2 1-2, 1 ., 0 .")
	told(t, "(?:(a)+b|(a)+c)", 2, "aac", "3 . 1-2")
	told(t, "(?:(a)c|b)*?ac", 1, "acac", "2 ., 4 0-1")
	told(t, "((a)b|(a)c)*", 3, "abacab", "6 4-6 4-5 2-3, 4 2-4 0-1 2-3, 2 0-2 0-1 ., 0 . . .")
}

// TestSameGroup: the same group twice, side by side and one within the other: what a way came to last stands.
func TestSameGroup(t *testing.T) {
	a, b, c := Letter('a'), Letter('b'), Letter('c')
	one := func(kid api.Tree) api.Tree { return Group(1, "", kid) }
	lists(t, Cat(one(a), one(b)), 1, "ab", 0, "2 1-2")
	lists(t, Alt(one(a), one(b)), 1, "b", 0, "1 0-1")
	lists(t, Cat(one(a), Quest(one(b))), 1, "ab", 0, "2 1-2, 1 0-1")
	lists(t, Cat(one(a), Lazy(Quest(one(b)))), 1, "ab", 0, "1 0-1, 2 1-2")
	lists(t, one(Cat(a, one(b), c)), 1, "abc", 0, "3 1-3")
	lists(t, one(one(a)), 1, "a", 0, "1 0-1")
	lists(t, one(Cat(one(a), b)), 1, "ab", 0, "2 0-2")
	lists(t, one(Cat(a, Quest(one(b)))), 1, "ab", 0, "2 1-2, 1 0-1")
	lists(t, Group(1, "x", Cat(a, Group(2, "x", b))), 2, "ab", 0, "2 0-2 1-2")
	lists(t, Cat(Group(3, "", a), Group(1, "", b)), 3, "ab", 0, "2 1-2 . 0-1")
}

// TestAbove: a group above those that are asked for is its Kid; those that the tree has not have no places.
func TestAbove(t *testing.T) {
	a, b := Letter('a'), Letter('b')
	tree := Cat(Group(1, "", a), Group(2, "", b))
	lists(t, tree, 0, "ab", 0, "2")
	lists(t, tree, 1, "ab", 0, "2 0-1")
	lists(t, tree, 2, "ab", 0, "2 0-1 1-2")
	lists(t, tree, 5, "ab", 0, "2 0-1 1-2 . . .")
	lists(t, Group(3, "", Star(Group(2, "", Group(1, "", a)))), 1, "aa", 0, "2 1-2, 1 0-1, 0 .")
	lists(t, Group(3, "", Star(Group(2, "", Group(1, "", a)))), 2, "aa", 0, "2 1-2 1-2, 1 0-1 0-1, 0 . .")
	for _, n := range []int{4, math.MaxInt/2 - 1, math.MaxInt / 2, math.MaxInt/2 + 1, math.MaxInt - 1, math.MaxInt} {
		lists(t, Cat(Group(n, "", a), Star(Group(n, "x", b))), 3, "abb", 0, "3 . . ., 2 . . ., 1 . . .")
	}
	read := Star(Group(1, "", Alt(a, Empty())))
	lists(t, read, 0, "aa", 0, "2, 1, 0")
	lists(t, Plus(Group(7, "", Alt(Empty(), a))), 0, "aa", 0, "0, 2, 1")
}

// TestManyGroups: from none to MaxGroups; one more, or one less, is nothing.
func TestManyGroups(t *testing.T) {
	last := Group(api.MaxGroups, "", Letter('a'))
	in := Made(t, "aab")
	for groups, want := range map[int][]int{api.MaxGroups: {1, 2}, api.MaxGroups - 1: {-1, -1}, 0: nil} {
		fit := slices.Repeat([]int{-1}, 2*groups+2)
		fit[0], fit[1] = 1, 2
		if groups == api.MaxGroups {
			copy(fit[2*groups:], want)
		}
		fits := listed(t, last, groups, in, 1)
		if len(fits) != 1 || !slices.Equal(fits[0], fit) {
			t.Errorf("%d groups: %v", groups, fits)
		}
		finds(t, last, groups, in)
	}
	for _, groups := range []int{-1, -2, math.MinInt, api.MaxGroups + 1, api.MaxGroups + 2, math.MaxInt/2 - 1, math.MaxInt / 2, math.MaxInt - 1, math.MaxInt} {
		nothing(t, last, groups, in, 0)
		nothing(t, Empty(), groups, in, 1)
	}
	all := Cat()
	for i := range api.MaxGroups {
		all.Kids = append(all.Kids, Group(i+1, "", Quest(Letter('a'))))
	}
	fit, ok := denote.Match(all, api.MaxGroups, in, 0, false)
	want := slices.Repeat([]int{2}, 2*api.MaxGroups+2)
	copy(want, []int{0, 2, 0, 1, 1, 2})
	if !ok || !slices.Equal(fit, want) {
		t.Errorf("%t, %v", ok, fit)
	}
}
