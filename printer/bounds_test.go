package printer_test

import (
	"slices"
	"strings"
	"testing"

	"martello/api"
	. "martello/samples"
	"martello/trees"
)

// TestDepth: P9.1: trees of the greatest depth; one more is no tree.
func TestDepth(t *testing.T) {
	x := Letter('x')
	for _, n := range []int{0, 1, 2, 10, 48, 49} {
		for _, d := range []struct {
			in         func(api.Tree) api.Tree
			begin, end string
			bare       bool // the innermost Kid stands without (?:
		}{
			{Star, "(?:", ")*", true}, {func(kid api.Tree) api.Tree { return Lazy(Plus(kid)) }, "(?:", ")+?", true}, {func(kid api.Tree) api.Tree { return Repeat(0, 0, kid) }, "(?:", "){0}", true},
			{func(kid api.Tree) api.Tree { return Group(0, "", kid) }, "(", ")", false}, {func(kid api.Tree) api.Tree { return Cat(kid) }, "", "", false}, {func(kid api.Tree) api.Tree { return Alt(kid) }, "", "", false},
			{func(kid api.Tree) api.Tree { return Cat(x, kid) }, "x", "", false}, {func(kid api.Tree) api.Tree { return Cat(kid, x) }, "", "x", false}, {func(kid api.Tree) api.Tree { return Alt(x, kid) }, "x|", "", false}, {func(kid api.Tree) api.Tree { return Alt(kid, x) }, "", "|x", false},
		} {
			want := strings.Repeat(d.begin, n) + "a" + strings.Repeat(d.end, n)
			if d.bare && n > 0 {
				want = strings.Replace(want, "(?:a)", "a", 1)
			}
			tree := Numbered(Nested(n, Letter('a'), d.in))
			prints(t, tree, want)
			again(t, tree)
			refuses(t, Numbered(Nested(50, tree, d.in)))
			if n == 49 {
				refuses(t, Numbered(d.in(tree)))
			}
		}
	}
	mixed := Nested(24, Letter('a'), func(kid api.Tree) api.Tree { return Alt(x, Cat(kid, x)) })
	prints(t, mixed, "x|"+strings.Repeat("(?:x|", 23)+"ax"+strings.Repeat(")x", 23))
	again(t, mixed)
	refuses(t, Nested(25, Letter('a'), func(kid api.Tree) api.Tree { return Alt(x, Cat(kid, x)) }))
}

// TestWeight: P9.1: trees of the greatest weight, or all but; one more is no tree. Their texts may be far above MaxPat.
func TestWeight(t *testing.T) {
	all := func(n int, kid api.Tree) []api.Tree { return slices.Repeat([]api.Tree{kid}, n) }
	a := Letter('a')
	for _, x := range []struct {
		tree   api.Tree
		weight int
		want   string
	}{
		{Cat(all(3999, a)...), 4000, strings.Repeat("a", 3999)}, {Cat(all(3999, Letter(0x10ffff))...), 4000, strings.Repeat(`\x{10ffff}`, 3999)}, {Cat(all(3999, None())...), 4000, strings.Repeat(`[^\x{0}-\x{10ffff}]`, 3999)}, {Cat(all(1999, Star(a))...), 3999, strings.Repeat("a*", 1999)},
		{Star(Cat(all(3998, Letter('.'))...)), 4000, "(?:" + strings.Repeat(`\.`, 3998) + ")*"}, {Group(1, "x", Cat(all(3997, a)...)), 4000, "(?P<x>" + strings.Repeat("a", 3997) + ")"}, {Alt(Cat(all(3998, a)...)), 4000, strings.Repeat("a", 3998)}, {Alt(all(2000, Empty())...), 4000, strings.Repeat("(?:)|", 1999) + "(?:)"},
		{Repeat(0, 0, Cat(all(3997, a)...)), 4000, "(?:" + strings.Repeat("a", 3997) + "){0}"}, {Cat(Repeat(999, 999, Cat(a, a)), a, a), 4000, "(?:aa){999}aa"}, {Cat(Lazy(Repeat(0, 1000, a)), Repeat(998, -1, a), a), 4000, "a{0,1000}?a{998,}a"},
	} {
		if w := trees.Weight(x.tree); w != x.weight {
			t.Errorf("%.40s..: %d", x.want, w)
		}
		prints(t, x.tree, x.want)
		refuses(t, Cat(x.tree, a))
	}
}

// TestManyGroups: P9.1: as many groups as a tree may have, each with a name of its own, and without.
func TestManyGroups(t *testing.T) {
	named, want := Cat(), ""
	for i := range 1333 {
		named.Kids = append(named.Kids, Group(i+1, Name(i+1), Letter('a')))
		want += "(?P<" + Name(i+1) + ">a)"
	}
	prints(t, named, want)
	for i := range named.Kids {
		named.Kids[i].Name = ""
	}
	prints(t, named, strings.Repeat("(a)", 1333))
	named.Kids = append(named.Kids, Letter('a'))
	refuses(t, named)
}

// TestGreat: what has more parts than could be gone through is no tree, and that is told soon.
func TestGreat(t *testing.T) {
	for _, tree := range TooMany() {
		refuses(t, tree)
		if t.Failed() {
			return // what is taken for a tree here would be gone through next
		}
	}
	prints(t, Nested(10, Letter('a'), func(kid api.Tree) api.Tree { return Cat(kid, kid) }), strings.Repeat("a", 1024))
}
