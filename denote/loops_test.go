package denote_test

import (
	"testing"

	"martello/api"
	. "martello/samples"
)

// told holds the List of a pattern, with as many groups as are shown, from the beginning of a text.
func told(t *testing.T, pattern string, groups int, text, want string) {
	t.Helper()
	lists(t, Parsed(t, pattern), groups, text, 0, want)
}

// TestStars: OpStar and OpPlus, greedy and lazy, over a Kid that reads.
func TestStars(t *testing.T) {
	a, ab := Letter('a'), Cat(Letter('a'), Letter('b'))
	from(t, Star(a), "aab", "2, 1, 0", "2, 1", "2", "3")
	from(t, Lazy(Star(a)), "aab", "0, 1, 2", "1, 2", "2", "3")
	from(t, Plus(a), "aab", "2, 1", "2", "", "")
	from(t, Lazy(Plus(a)), "aab", "1, 2", "2", "", "")
	from(t, Star(ab), "abab", "4, 2, 0", "1", "4, 2", "3", "4")
	from(t, Lazy(Plus(ab)), "abab", "2, 4", "", "4", "", "")
	from(t, Star(Alt(a, ab)), "abab", "1, 3, 4, 2, 0", "1", "3, 4, 2", "3", "4")
	from(t, Lazy(Star(Alt(ab, a))), "aba", "0, 2, 3, 1", "1", "2, 3", "3")
	from(t, Cat(Star(a), a), "aaa", "3, 2, 1", "3, 2", "3", "")
	from(t, Cat(Lazy(Star(a)), a), "aaa", "1, 2, 3", "2, 3", "3", "")
	from(t, Star(Set(0, 0x10ffff)), "a\xffé", "3, 2, 1, 0", "3, 2, 1", "3, 2", "3")
}

// TestOverNothing: OpStar and OpPlus over a Kid that may fit nothing: what comes to it again at the same place is none.
func TestOverNothing(t *testing.T) {
	told(t, "(|a)*", 1, "aa", "2 1-2, 1 0-1, 0 .")
	told(t, "(|a)*?", 1, "aa", "0 ., 1 0-1, 2 1-2")
	told(t, "(a|)*", 1, "aa", "2 1-2, 1 0-1, 0 .")
	told(t, "(a|)*?", 1, "aa", "0 ., 1 0-1, 2 1-2")
	told(t, "(a?)*", 1, "aa", "2 1-2, 1 0-1, 0 .")
	told(t, "(a??)*", 1, "aa", "2 1-2, 1 0-1, 0 .")
	told(t, "(a|)+", 1, "aa", "2 1-2, 1 0-1, 0 0-0")
	told(t, "(a|)+?", 1, "aa", "1 0-1, 2 1-2, 0 0-0")
	told(t, "(a?)+?", 1, "aa", "1 0-1, 2 1-2, 0 0-0")
	told(t, "(|a)+?", 1, "aa", "0 0-0, 1 0-1, 2 1-2")
	told(t, "(|a)+", 1, "", "0 0-0")
	told(t, "(|a)+?", 1, "", "0 0-0")
	told(t, "(|a)*", 1, "", "0 .")
}

// TestAskedTwice: a way in which an OpPlus asks twice at one place is none, greedy or lazy: behind an `a` the Kid fits nothing, and the end there is the one told of when it asked first.
func TestAskedTwice(t *testing.T) {
	told(t, "(|a)+", 1, "aa", "0 0-0, 2 1-2, 1 0-1")
	told(t, "(|a)+", 1, "aaa", "0 0-0, 3 2-3, 2 1-2, 1 0-1")
	told(t, "(?:a??)+", 0, "aa", "0, 2, 1")
	told(t, "(?:|a)+b|", 0, "aab", "3, 0")
	told(t, "(|a|b)+", 1, "ab", "0 0-0, 2 1-2, 1 0-1")
	told(t, "(?:(|a)+)+", 1, "aa", "0 0-0, 2 1-2, 1 0-1")
	told(t, "x(|a)+", 1, "xaa", "1 1-1, 3 2-3, 2 1-2")
}

// TestOverRepeats: OpStar and OpPlus over a repeat within, which a way comes to once at each place.
func TestOverRepeats(t *testing.T) {
	told(t, "(a*)*", 1, "aa", "2 0-2, 1 0-1, 0 .")
	told(t, "(a*)*?", 1, "aa", "0 ., 2 0-2, 1 0-1")
	told(t, "(a*)+", 1, "aa", "2 0-2, 1 0-1, 0 0-0")
	told(t, "(a*)+?", 1, "aa", "2 0-2, 1 0-1, 0 0-0")
	told(t, "(a*?)*", 1, "aa", "1 0-1, 2 0-2, 0 .")
	told(t, "(a*?)*?", 1, "aa", "0 ., 1 0-1, 2 0-2")
	told(t, "(a*?)+", 1, "aa", "0 0-0, 1 0-1, 2 0-2")
	told(t, "(a*?)+?", 1, "aa", "0 0-0, 1 0-1, 2 0-2")
	told(t, "(a+)*", 1, "aa", "2 0-2, 1 0-1, 0 .")
	told(t, "(a+)+", 1, "aa", "2 0-2, 1 0-1")
	told(t, "(a+?)*", 1, "aa", "2 1-2, 1 0-1, 0 .")
	told(t, "(a+?)+?", 1, "aa", "1 0-1, 2 1-2")
	told(t, "(?:a*?)*", 0, "aa", "1, 2, 0")
	told(t, "(?:a*)+?", 0, "aa", "2, 1, 0")
	told(t, "(?:a*?)*b", 0, "aab", "3")
	told(t, "(?:(a*)b*)*", 1, "aba", "3 2-3, 2 0-1, 1 0-1, 0 .")
	told(t, "(?:(a*)(b*))*", 2, "ab", "2 0-1 1-2, 1 0-1 1-1, 0 . .")
}

// TestOverNoMore: OpStar and OpPlus over a Kid that never fits, or never reads.
func TestOverNoMore(t *testing.T) {
	none, empty := None(), Empty()
	for _, slow := range []bool{false, true} {
		with := func(tree api.Tree) api.Tree { tree.Lazy = slow; return tree }
		from(t, with(Star(none)), "a", "0", "1")
		from(t, with(Plus(none)), "a", "", "")
		from(t, with(Star(empty)), "a", "0", "1")
		from(t, with(Plus(empty)), "a", "0", "1")
		from(t, with(Star(Cat())), "a", "0", "1")
		from(t, with(Plus(Cat())), "a", "0", "1")
		from(t, with(Star(At(api.AtBegin))), "a", "0", "1")
		from(t, with(Plus(At(api.AtBegin))), "a", "0", "")
		from(t, with(Star(Letter('b'))), "a", "0", "1")
		from(t, with(Plus(Letter('b'))), "a", "", "")
		from(t, with(Star(Cat(Letter('a'), none))), "a", "0", "1")
		from(t, with(Plus(with(Star(none)))), "a", "0", "1")
		from(t, with(Star(with(Plus(empty)))), "a", "0", "1")
		lists(t, with(Star(Group(1, "", At(api.AtEnd)))), 1, "a", 1, "1 .")
		lists(t, with(Plus(Group(1, "", At(api.AtEnd)))), 1, "a", 1, "1 1-1")
	}
}

// TestCounts: OpRepeat with each kind of a count.
func TestCounts(t *testing.T) {
	a := Letter('a')
	for _, x := range []struct {
		least, most  int
		want, wanted string // greedy, lazy
	}{
		{0, 0, "0", "0"}, {1, 1, "1", "1"}, {2, 2, "2", "2"}, {3, 3, "3", "3"}, {4, 4, "", ""}, {1000, 1000, "", ""},
		{0, -1, "3, 2, 1, 0", "0, 1, 2, 3"}, {1, -1, "3, 2, 1", "1, 2, 3"}, {2, -1, "3, 2", "2, 3"}, {3, -1, "3", "3"}, {4, -1, "", ""}, {1000, -1, "", ""},
		{0, 1, "1, 0", "0, 1"}, {0, 2, "2, 1, 0", "0, 1, 2"}, {0, 3, "3, 2, 1, 0", "0, 1, 2, 3"}, {0, 4, "3, 2, 1, 0", "0, 1, 2, 3"}, {0, 1000, "3, 2, 1, 0", "0, 1, 2, 3"},
		{1, 2, "2, 1", "1, 2"}, {1, 3, "3, 2, 1", "1, 2, 3"}, {2, 3, "3, 2", "2, 3"}, {2, 4, "3, 2", "2, 3"}, {3, 1000, "3", "3"}, {4, 5, "", ""}, {999, 1000, "", ""},
	} {
		tree := Repeat(x.least, x.most, a)
		lists(t, tree, 0, "aaab", 0, x.want)
		lists(t, Lazy(tree), 0, "aaab", 0, x.wanted)
		lists(t, Cat(Letter('x'), tree, Empty()), 0, "xaaa", 1, "")
		lists(t, Repeat(x.least, x.most, None()), 0, "a", 0, map[bool]string{true: "0"}[x.least == 0])
		lists(t, Lazy(Repeat(x.least, x.most, Empty())), 0, "a", 1, "1")
	}
}

// TestCopies: each copy is a part of its own, to which a way comes though it came to another one there.
func TestCopies(t *testing.T) {
	told(t, "(?:|a){2}", 0, "a", "0, 1")
	told(t, "(|a){2}", 1, "aa", "0 0-0, 1 0-1, 2 1-2")
	told(t, "(|a){3}", 1, "aa", "0 0-0, 1 0-1, 2 1-2")
	told(t, "(|a){2,}", 1, "aa", "0 0-0, 2 1-2, 1 0-1")
	told(t, "(a*){2}", 1, "aa", "2 2-2, 1 1-1, 0 0-0")
	told(t, "(a*){2,}", 1, "aa", "2 2-2, 1 1-1, 0 0-0")
	told(t, "(a*){0,2}", 1, "aa", "2 2-2, 1 1-1, 0 0-0")
	told(t, "(a*){0,2}?", 1, "aa", "0 ., 2 0-2, 1 0-1")
	told(t, "(|a){0,2}", 1, "aa", "0 0-0, 1 0-1, 2 1-2")
	told(t, "(|a){1,2}", 1, "aa", "0 0-0, 1 0-1, 2 1-2")
	told(t, "(|a){1,2}?", 1, "aa", "0 0-0, 1 0-1, 2 1-2")
	told(t, "(|a){0,}", 1, "aa", "2 1-2, 1 0-1, 0 .")
	told(t, "(|a){1,}", 1, "aa", "0 0-0, 2 1-2, 1 0-1")
	told(t, "(a?){2}", 1, "a", "1 1-1, 0 0-0")
	told(t, "(a?){0,1}", 1, "a", "1 0-1, 0 0-0")
	told(t, "(?:(?:|a){2}){2}", 0, "aaa", "0, 1, 2, 3")
	told(t, "(?:a{2}|b){2}", 0, "aab", "3")
	told(t, "(a{1,2}){2}", 1, "aaaa", "4 2-4, 3 2-3, 2 1-2")
	told(t, "(a{1,2}?){2}", 1, "aaaa", "2 1-2, 3 1-3, 4 2-4")
	told(t, "(a|b){2,3}(c)?", 2, "abbc", "4 2-3 3-4, 3 2-3 ., 2 1-2 .")
}
