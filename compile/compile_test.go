package compile_test

import (
	"math"
	"testing"

	"martello/api"
	. "martello/samples"
)

// TestExamples: the chapter's table.
func TestExamples(t *testing.T) {
	compiles(t, read(t, "a*", api.FlagPerl), 0, "1 alt 2 0, 2 set a 1; 1")
	compiles(t, read(t, "(a)", api.FlagPerl), 1, "1 cap 3 to 0, 2 set a 1, 3 cap 2 to 2; 3")
}

// TestLeaves: what has no Kids, on its own.
func TestLeaves(t *testing.T) {
	for _, groups := range []int{0, 1, 7, 1999, 2000} {
		compiles(t, None(), groups, "1 fail; 1")
		compiles(t, Empty(), groups, "; 0")
		compiles(t, Cat(), groups, "; 0")
		compiles(t, Letter('a'), groups, "1 set a 0; 1")
		compiles(t, Letter(0), groups, "1 set <0> 0; 1")
		compiles(t, Letter(0xd800), groups, "1 set <d800> 0; 1")
		compiles(t, Letter(0x10ffff), groups, "1 set <10ffff> 0; 1")
		compiles(t, Set('a', 'a'), groups, "1 set a 0; 1")
		compiles(t, Set('a', 'c', 'e', 'e', 'x', 'z'), groups, "1 set a-cex-z 0; 1")
		compiles(t, Set(0, 0x10ffff), groups, "1 set <0>-<10ffff> 0; 1")
		compiles(t, At(api.AtBegin), groups, "1 at 1 0; 1")
		compiles(t, At(api.AtEnd), groups, "1 at 2 0; 1")
		compiles(t, At(api.AtBeginLine), groups, "1 at 4 0; 1")
		compiles(t, At(api.AtEndLine), groups, "1 at 8 0; 1")
		compiles(t, At(api.AtWord), groups, "1 at 16 0; 1")
		compiles(t, At(api.AtNoWord), groups, "1 at 32 0; 1")
	}
}

// TestCat: the last Kid stands first, and each leads to the one behind it; what is empty leads on to what is behind it.
func TestCat(t *testing.T) {
	a, b, c := Letter('a'), Letter('b'), Letter('c')
	for _, x := range []struct {
		tree api.Tree
		want string
	}{
		{Cat(a), "1 set a 0; 1"}, {Cat(a, b), "1 set b 0, 2 set a 1; 2"}, {Cat(a, b, c), "1 set c 0, 2 set b 1, 3 set a 2; 3"}, {Cat(a, a, a, a), "1 set a 0, 2 set a 1, 3 set a 2, 4 set a 3; 4"},
		{Cat(Empty()), "; 0"}, {Cat(Empty(), Empty()), "; 0"}, {Cat(a, Empty()), "1 set a 0; 1"}, {Cat(Empty(), a), "1 set a 0; 1"}, {Cat(a, Empty(), b), "1 set b 0, 2 set a 1; 2"}, {Cat(Cat(), a, Cat(), b, Cat()), "1 set b 0, 2 set a 1; 2"},
		{Cat(Cat(a, b), c), "1 set c 0, 2 set b 1, 3 set a 2; 3"}, {Cat(a, Cat(b, c)), "1 set c 0, 2 set b 1, 3 set a 2; 3"}, {Cat(Cat(Cat(a)), Cat(Cat(b))), "1 set b 0, 2 set a 1; 2"},
		{Cat(None()), "1 fail; 1"}, {Cat(a, None()), "1 fail, 2 set a 1; 2"}, {Cat(None(), a), "1 set a 0, 2 fail; 2"}, {Cat(None(), None()), "1 fail, 2 fail; 2"},
		{Cat(At(1), a, At(2)), "1 at 2 0, 2 set a 1, 3 at 1 2; 3"}, {Cat(Set('a', 'c'), At(16), Set('b', 'd')), "1 set b-d 0, 2 at 16 1, 3 set a-c 2; 3"},
		{Cat(a, Alt(b, c)), "1 set b 0, 2 set c 0, 3 alt 1 2, 4 set a 3; 4"}, {Cat(Alt(a, b), c), "1 set c 0, 2 set a 1, 3 set b 1, 4 alt 2 3; 4"}, {Cat(Star(a), b), "1 set b 0, 2 alt 3 1, 3 set a 2; 2"}, {Cat(a, Star(b)), "1 alt 2 0, 2 set b 1, 3 set a 1; 3"}, {Cat(Plus(a), b), "1 set b 0, 2 alt 3 1, 3 set a 2; 3"}, {Cat(a, Plus(b)), "1 alt 2 0, 2 set b 1, 3 set a 2; 3"}, {Cat(Quest(a), b), "1 set b 0, 2 set a 1, 3 alt 2 1; 3"}, {Cat(a, Quest(b)), "1 set b 0, 2 alt 1 0, 3 set a 2; 3"},
	} {
		compiles(t, x.tree, 0, x.want)
	}
}

// TestAlt: the Kids stand in their order, and behind them what leads to them, the last one first.
func TestAlt(t *testing.T) {
	a, b, c, d := Letter('a'), Letter('b'), Letter('c'), Letter('d')
	for _, x := range []struct {
		tree api.Tree
		want string
	}{
		{Alt(a), "1 set a 0; 1"}, {Alt(Empty()), "; 0"}, {Alt(None()), "1 fail; 1"}, {Alt(Alt(a)), "1 set a 0; 1"}, {Alt(Cat(a, b)), "1 set b 0, 2 set a 1; 2"},
		{Alt(a, b), "1 set a 0, 2 set b 0, 3 alt 1 2; 3"}, {Alt(b, a), "1 set b 0, 2 set a 0, 3 alt 1 2; 3"}, {Alt(a, b, c), "1 set a 0, 2 set b 0, 3 set c 0, 4 alt 2 3, 5 alt 1 4; 5"}, {Alt(a, b, c, d), "1 set a 0, 2 set b 0, 3 set c 0, 4 set d 0, 5 alt 3 4, 6 alt 2 5, 7 alt 1 6; 7"},
		{Alt(Empty(), a), "1 set a 0, 2 alt 0 1; 2"}, {Alt(a, Empty()), "1 set a 0, 2 alt 1 0; 2"}, {Alt(Empty(), Empty()), "1 alt 0 0; 1"}, {Alt(Empty(), Empty(), Empty()), "1 alt 0 0, 2 alt 0 1; 2"}, {Alt(a, Cat(), b), "1 set a 0, 2 set b 0, 3 alt 0 2, 4 alt 1 3; 4"},
		{Alt(None(), a), "1 fail, 2 set a 0, 3 alt 1 2; 3"}, {Alt(a, None(), b), "1 set a 0, 2 fail, 3 set b 0, 4 alt 2 3, 5 alt 1 4; 5"}, {Alt(At(4), At(8)), "1 at 4 0, 2 at 8 0, 3 alt 1 2; 3"},
		{Alt(Alt(a, b), c), "1 set a 0, 2 set b 0, 3 alt 1 2, 4 set c 0, 5 alt 3 4; 5"}, {Alt(a, Alt(b, c)), "1 set a 0, 2 set b 0, 3 set c 0, 4 alt 2 3, 5 alt 1 4; 5"}, {Alt(Cat(a, b), Cat(c, d)), "1 set b 0, 2 set a 1, 3 set d 0, 4 set c 3, 5 alt 2 4; 5"}, {Cat(Alt(a, b), Alt(c, d)), "1 set c 0, 2 set d 0, 3 alt 1 2, 4 set a 3, 5 set b 3, 6 alt 4 5; 6"},
		{Alt(Star(a), b), "1 alt 2 0, 2 set a 1, 3 set b 0, 4 alt 1 3; 4"}, {Alt(Plus(a), b), "1 alt 2 0, 2 set a 1, 3 set b 0, 4 alt 2 3; 4"}, {Alt(a, Quest(b)), "1 set a 0, 2 set b 0, 3 alt 2 0, 4 alt 1 3; 4"}, {Alt(a, Plus(b), Star(c)), "1 set a 0, 2 alt 3 0, 3 set b 2, 4 alt 5 0, 5 set c 4, 6 alt 3 4, 7 alt 1 6; 7"},
	} {
		compiles(t, x.tree, 0, x.want)
	}
}

// TestGroups: groups that are asked for, at just the greatest one and above it.
func TestGroups(t *testing.T) {
	a, b, c := Letter('a'), Letter('b'), Letter('c')
	both := Cat(Group(1, "x", a), Group(2, "", b))
	in := Group(1, "", Cat(a, Group(2, "y", b)))
	far := Alt(Group(3, "", a), Group(2, "", b), Group(1, "", c))
	for _, x := range []struct {
		tree   api.Tree
		groups int
		want   string
	}{
		{Group(1, "", a), 0, "1 set a 0; 1"}, {Group(1, "", a), 1, "1 cap 3 to 0, 2 set a 1, 3 cap 2 to 2; 3"}, {Group(1, "name", a), 2, "1 cap 3 to 0, 2 set a 1, 3 cap 2 to 2; 3"}, {Group(2, "", a), 1, "1 set a 0; 1"}, {Group(2, "", a), 2, "1 cap 5 to 0, 2 set a 1, 3 cap 4 to 2; 3"},
		{Group(1, "", Empty()), 1, "1 cap 3 to 0, 2 cap 2 to 1; 2"}, {Group(1, "", Empty()), 0, "; 0"}, {Group(1, "", Cat()), 1, "1 cap 3 to 0, 2 cap 2 to 1; 2"}, {Group(1, "", None()), 1, "1 cap 3 to 0, 2 fail, 3 cap 2 to 2; 3"}, {Group(1, "", At(32)), 1, "1 cap 3 to 0, 2 at 32 1, 3 cap 2 to 2; 3"},
		{Group(2000, "", a), 2000, "1 cap 4001 to 0, 2 set a 1, 3 cap 4000 to 2; 3"}, {Group(2000, "", a), 1999, "1 set a 0; 1"}, {Group(1999, "", a), 1999, "1 cap 3999 to 0, 2 set a 1, 3 cap 3998 to 2; 3"}, {Group(2001, "", a), 2000, "1 set a 0; 1"}, {Group(math.MaxInt, "", a), 0, "1 set a 0; 1"}, {Group(math.MaxInt/2, "", a), 2000, "1 set a 0; 1"}, {Group(math.MaxInt/2+1, "", a), 2000, "1 set a 0; 1"}, {Group(math.MaxInt/2+2, "", a), 2000, "1 set a 0; 1"},
		{both, 0, "1 set b 0, 2 set a 1; 2"}, {both, 1, "1 set b 0, 2 cap 3 to 1, 3 set a 2, 4 cap 2 to 3; 4"}, {both, 2, "1 cap 5 to 0, 2 set b 1, 3 cap 4 to 2, 4 cap 3 to 3, 5 set a 4, 6 cap 2 to 5; 6"},
		{in, 0, "1 set b 0, 2 set a 1; 2"}, {in, 1, "1 cap 3 to 0, 2 set b 1, 3 set a 2, 4 cap 2 to 3; 4"}, {in, 2, "1 cap 3 to 0, 2 cap 5 to 1, 3 set b 2, 4 cap 4 to 3, 5 set a 4, 6 cap 2 to 5; 6"}, {in, 3, "1 cap 3 to 0, 2 cap 5 to 1, 3 set b 2, 4 cap 4 to 3, 5 set a 4, 6 cap 2 to 5; 6"},
		{far, 1, "1 set a 0, 2 set b 0, 3 cap 3 to 0, 4 set c 3, 5 cap 2 to 4, 6 alt 2 5, 7 alt 1 6; 7"}, {far, 2, "1 set a 0, 2 cap 5 to 0, 3 set b 2, 4 cap 4 to 3, 5 cap 3 to 0, 6 set c 5, 7 cap 2 to 6, 8 alt 4 7, 9 alt 1 8; 9"},
		{Cat(Group(1, "", a), Group(1, "", a)), 1, "1 cap 3 to 0, 2 set a 1, 3 cap 2 to 2, 4 cap 3 to 3, 5 set a 4, 6 cap 2 to 5; 6"}, {Group(1, "x", Group(1, "x", a)), 1, "1 cap 3 to 0, 2 cap 3 to 1, 3 set a 2, 4 cap 2 to 3, 5 cap 2 to 4; 5"}, {Group(2, "", Group(1, "", a)), 1, "1 cap 3 to 0, 2 set a 1, 3 cap 2 to 2; 3"}, {Group(1, "", Group(2, "", Group(3, "", a))), 2, "1 cap 3 to 0, 2 cap 5 to 1, 3 set a 2, 4 cap 4 to 3, 5 cap 2 to 4; 5"},
		{Star(Group(1, "", a)), 1, "1 alt 4 0, 2 cap 3 to 1, 3 set a 2, 4 cap 2 to 3; 1"}, {Star(Group(1, "", a)), 0, "1 alt 2 0, 2 set a 1; 1"}, {Plus(Group(1, "", a)), 1, "1 alt 4 0, 2 cap 3 to 1, 3 set a 2, 4 cap 2 to 3; 4"}, {Quest(Group(1, "", a)), 1, "1 cap 3 to 0, 2 set a 1, 3 cap 2 to 2, 4 alt 3 0; 4"}, {Group(1, "", Star(a)), 1, "1 cap 3 to 0, 2 alt 3 1, 3 set a 2, 4 cap 2 to 2; 4"}, {Group(1, "", Plus(a)), 1, "1 cap 3 to 0, 2 alt 3 1, 3 set a 2, 4 cap 2 to 3; 4"}, {Group(1, "", Alt(a, b)), 1, "1 cap 3 to 0, 2 set a 1, 3 set b 1, 4 alt 2 3, 5 cap 2 to 4; 5"},
	} {
		compiles(t, x.tree, x.groups, x.want)
	}
}
