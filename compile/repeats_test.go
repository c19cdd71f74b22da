package compile_test

import (
	"testing"

	"martello/api"
	. "martello/samples"
)

// TestRepeats: what may be, and loops, of each other Op; lazy ones lead first to what is behind them.
func TestRepeats(t *testing.T) {
	a, b := Letter('a'), Letter('b')
	for _, x := range []struct {
		tree       api.Tree
		want, lazy string
	}{
		{Quest(a), "1 set a 0, 2 alt 1 0; 2", "1 set a 0, 2 alt 0 1; 2"}, {Star(a), "1 alt 2 0, 2 set a 1; 1", "1 alt 0 2, 2 set a 1; 1"}, {Plus(a), "1 alt 2 0, 2 set a 1; 2", "1 alt 0 2, 2 set a 1; 2"},
		{Quest(Set('a', 'c')), "1 set a-c 0, 2 alt 1 0; 2", "1 set a-c 0, 2 alt 0 1; 2"}, {Star(Set('a', 'c')), "1 alt 2 0, 2 set a-c 1; 1", "1 alt 0 2, 2 set a-c 1; 1"}, {Plus(Set('a', 'c')), "1 alt 2 0, 2 set a-c 1; 2", "1 alt 0 2, 2 set a-c 1; 2"},
		{Quest(None()), "1 fail, 2 alt 1 0; 2", "1 fail, 2 alt 0 1; 2"}, {Star(None()), "1 alt 2 0, 2 fail; 1", "1 alt 0 2, 2 fail; 1"}, {Plus(None()), "1 alt 2 0, 2 fail; 2", "1 alt 0 2, 2 fail; 2"},
		{Quest(Empty()), "1 alt 0 0; 1", "1 alt 0 0; 1"}, {Star(Empty()), "1 alt 1 0; 1", "1 alt 0 1; 1"}, {Plus(Empty()), "1 alt 1 0; 1", "1 alt 0 1; 1"}, // a loop whose Kid has no code leads to itself
		{Quest(Cat()), "1 alt 0 0; 1", "1 alt 0 0; 1"}, {Star(Cat()), "1 alt 1 0; 1", "1 alt 0 1; 1"}, {Plus(Cat()), "1 alt 1 0; 1", "1 alt 0 1; 1"},
		{Quest(At(1)), "1 at 1 0, 2 alt 1 0; 2", "1 at 1 0, 2 alt 0 1; 2"}, {Star(At(2)), "1 alt 2 0, 2 at 2 1; 1", "1 alt 0 2, 2 at 2 1; 1"}, {Plus(At(4)), "1 alt 2 0, 2 at 4 1; 2", "1 alt 0 2, 2 at 4 1; 2"},
		{Quest(Cat(a, b)), "1 set b 0, 2 set a 1, 3 alt 2 0; 3", "1 set b 0, 2 set a 1, 3 alt 0 2; 3"}, {Star(Cat(a, b)), "1 alt 3 0, 2 set b 1, 3 set a 2; 1", "1 alt 0 3, 2 set b 1, 3 set a 2; 1"}, {Plus(Cat(a, b)), "1 alt 3 0, 2 set b 1, 3 set a 2; 3", "1 alt 0 3, 2 set b 1, 3 set a 2; 3"},
		{Quest(Alt(a, b)), "1 set a 0, 2 set b 0, 3 alt 1 2, 4 alt 3 0; 4", "1 set a 0, 2 set b 0, 3 alt 1 2, 4 alt 0 3; 4"}, {Star(Alt(a, b)), "1 alt 4 0, 2 set a 1, 3 set b 1, 4 alt 2 3; 1", "1 alt 0 4, 2 set a 1, 3 set b 1, 4 alt 2 3; 1"}, {Plus(Alt(Empty(), a)), "1 alt 3 0, 2 set a 1, 3 alt 1 2; 3", "1 alt 0 3, 2 set a 1, 3 alt 1 2; 3"},
		{Quest(Quest(a)), "1 set a 0, 2 alt 1 0, 3 alt 2 0; 3", "1 set a 0, 2 alt 1 0, 3 alt 0 2; 3"}, {Quest(Star(a)), "1 alt 2 0, 2 set a 1, 3 alt 1 0; 3", "1 alt 2 0, 2 set a 1, 3 alt 0 1; 3"}, {Quest(Plus(a)), "1 alt 2 0, 2 set a 1, 3 alt 2 0; 3", "1 alt 2 0, 2 set a 1, 3 alt 0 2; 3"},
		{Star(Quest(a)), "1 alt 3 0, 2 set a 1, 3 alt 2 1; 1", "1 alt 0 3, 2 set a 1, 3 alt 2 1; 1"}, {Star(Star(a)), "1 alt 2 0, 2 alt 3 1, 3 set a 2; 1", "1 alt 0 2, 2 alt 3 1, 3 set a 2; 1"}, {Star(Plus(a)), "1 alt 3 0, 2 alt 3 1, 3 set a 2; 1", "1 alt 0 3, 2 alt 3 1, 3 set a 2; 1"},
		{Plus(Quest(a)), "1 alt 3 0, 2 set a 1, 3 alt 2 1; 3", "1 alt 0 3, 2 set a 1, 3 alt 2 1; 3"}, {Plus(Star(a)), "1 alt 2 0, 2 alt 3 1, 3 set a 2; 2", "1 alt 0 2, 2 alt 3 1, 3 set a 2; 2"}, {Plus(Plus(a)), "1 alt 3 0, 2 alt 3 1, 3 set a 2; 3", "1 alt 0 3, 2 alt 3 1, 3 set a 2; 3"},
		{Star(Lazy(Star(a))), "1 alt 2 0, 2 alt 1 3, 3 set a 2; 1", "1 alt 0 2, 2 alt 1 3, 3 set a 2; 1"}, {Plus(Lazy(Plus(a))), "1 alt 3 0, 2 alt 1 3, 3 set a 2; 3", "1 alt 0 3, 2 alt 1 3, 3 set a 2; 3"}, {Quest(Lazy(Quest(a))), "1 set a 0, 2 alt 0 1, 3 alt 2 0; 3", "1 set a 0, 2 alt 0 1, 3 alt 0 2; 3"},
		{Plus(Plus(Empty())), "1 alt 2 0, 2 alt 2 1; 2", "1 alt 0 2, 2 alt 2 1; 2"}, {Plus(Cat(Star(a), b)), "1 alt 3 0, 2 set b 1, 3 alt 4 2, 4 set a 3; 3", "1 alt 0 3, 2 set b 1, 3 alt 4 2, 4 set a 3; 3"}, {Star(Cat(a, Star(b))), "1 alt 4 0, 2 alt 3 1, 3 set b 2, 4 set a 2; 1", "1 alt 0 4, 2 alt 3 1, 3 set b 2, 4 set a 2; 1"},
		{Star(Alt(Star(a), Plus(b))), "1 alt 6 0, 2 alt 3 1, 3 set a 2, 4 alt 5 1, 5 set b 4, 6 alt 2 5; 1", "1 alt 0 6, 2 alt 3 1, 3 set a 2, 4 alt 5 1, 5 set b 4, 6 alt 2 5; 1"},
	} {
		compiles(t, x.tree, 0, x.want)
		compiles(t, Lazy(x.tree), 0, x.lazy)
	}
}

// TestPatterns: the ten examples of the whole, those that are trees, and some with all kinds of parts.
func TestPatterns(t *testing.T) {
	for _, x := range []struct {
		pattern string
		groups  int
		want    string
	}{
		{"(a|ab)(c|bcd)?", 2, "1 cap 5 to 0, 2 set c 1, 3 set d 1, 4 set c 3, 5 set b 4, 6 alt 2 5, 7 cap 4 to 6, 8 alt 7 0, 9 cap 3 to 8, 10 set a 9, 11 set b 9, 12 set a 11, 13 alt 10 12, 14 cap 2 to 13; 14"},
		{"a|ab", 0, "1 set a 0, 2 set b 0, 3 set a 2, 4 alt 1 3; 4"},
		{"(|a)+", 1, "1 alt 5 0, 2 cap 3 to 1, 3 set a 2, 4 alt 2 3, 5 cap 2 to 4; 5"},
		{"(?:a*?)*", 0, "1 alt 2 0, 2 alt 1 3, 3 set a 2; 1"},
		{"(a*)+b", 1, "1 set b 0, 2 alt 6 1, 3 cap 3 to 2, 4 alt 5 3, 5 set a 4, 6 cap 2 to 4; 6"},
		{"(?i)k", 0, "1 set <4b>k<212a> 0; 1"},
		{`\b`, 0, "1 at 16 0; 1"},
		{"(?P<x>a)(b)?", 2, "1 cap 5 to 0, 2 set b 1, 3 cap 4 to 2, 4 alt 3 0, 5 cap 3 to 4, 6 set a 5, 7 cap 2 to 6; 7"},
		{`\A(?m:^)*?(?m:$)+\B\z`, 0, "1 at 2 0, 2 at 32 1, 3 alt 4 2, 4 at 8 3, 5 alt 4 6, 6 at 4 5, 7 at 1 5; 7"},
		{"", 0, "; 0"}, {".", 0, "1 set <0>-<9><b>-<10ffff> 0; 1"}, {`[^\x{0}-\x{10ffff}]|a??`, 0, "1 fail, 2 set a 0, 3 alt 0 2, 4 alt 1 3; 4"},
	} {
		compiles(t, read(t, x.pattern, api.FlagPerl), x.groups, x.want)
	}
}
