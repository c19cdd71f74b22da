package printer_test

import (
	"slices"
	"strings"
	"testing"

	"martello/api"
	"martello/trees"
)

// TestDepth: P9.1: trees of the greatest depth; one more is no tree.
func TestDepth(t *testing.T) {
	x := letter('x')
	for _, n := range []int{0, 1, 2, 10, 48, 49} {
		for _, d := range []struct {
			in         func(api.Tree) api.Tree
			begin, end string
			bare       bool // the innermost Kid stands without (?:
		}{
			{star, "(?:", ")*", true}, {func(kid api.Tree) api.Tree { return lazy(plus(kid)) }, "(?:", ")+?", true}, {func(kid api.Tree) api.Tree { return repeat(0, 0, kid) }, "(?:", "){0}", true},
			{func(kid api.Tree) api.Tree { return grp(0, "", kid) }, "(", ")", false}, {func(kid api.Tree) api.Tree { return cat(kid) }, "", "", false}, {func(kid api.Tree) api.Tree { return alt(kid) }, "", "", false},
			{func(kid api.Tree) api.Tree { return cat(x, kid) }, "x", "", false}, {func(kid api.Tree) api.Tree { return cat(kid, x) }, "", "x", false}, {func(kid api.Tree) api.Tree { return alt(x, kid) }, "x|", "", false}, {func(kid api.Tree) api.Tree { return alt(kid, x) }, "", "|x", false},
		} {
			want := strings.Repeat(d.begin, n) + "a" + strings.Repeat(d.end, n)
			if d.bare && n > 0 {
				want = strings.Replace(want, "(?:a)", "a", 1)
			}
			tree := numbered(nested(n, letter('a'), d.in))
			prints(t, tree, want)
			again(t, tree)
			refuses(t, numbered(nested(50, tree, d.in)))
			if n == 49 {
				refuses(t, numbered(d.in(tree)))
			}
		}
	}
	mixed := nested(24, letter('a'), func(kid api.Tree) api.Tree { return alt(x, cat(kid, x)) })
	prints(t, mixed, "x|"+strings.Repeat("(?:x|", 23)+"ax"+strings.Repeat(")x", 23))
	again(t, mixed)
	refuses(t, nested(25, letter('a'), func(kid api.Tree) api.Tree { return alt(x, cat(kid, x)) }))
	for _, depth := range []int{51, 1000, 4000, 1 << 16} {
		refuses(t, nested(depth-1, letter('a'), star))
	}
}

// TestWeight: P9.1: trees of the greatest weight, or all but; one more is no tree. Their texts may be far above MaxPat.
func TestWeight(t *testing.T) {
	all := func(n int, kid api.Tree) []api.Tree { return slices.Repeat([]api.Tree{kid}, n) }
	a := letter('a')
	for _, x := range []struct {
		tree   api.Tree
		weight int
		want   string
	}{
		{cat(all(3999, a)...), 4000, strings.Repeat("a", 3999)}, {cat(all(3999, letter(0x10ffff))...), 4000, strings.Repeat(`\x{10ffff}`, 3999)}, {cat(all(3999, none())...), 4000, strings.Repeat(`[^\x{0}-\x{10ffff}]`, 3999)}, {cat(all(1999, star(a))...), 3999, strings.Repeat("a*", 1999)},
		{star(cat(all(3998, letter('.'))...)), 4000, "(?:" + strings.Repeat(`\.`, 3998) + ")*"}, {grp(1, "x", cat(all(3997, a)...)), 4000, "(?P<x>" + strings.Repeat("a", 3997) + ")"}, {alt(cat(all(3998, a)...)), 4000, strings.Repeat("a", 3998)}, {alt(all(2000, empty())...), 4000, strings.Repeat("(?:)|", 1999) + "(?:)"},
		{repeat(0, 0, cat(all(3997, a)...)), 4000, "(?:" + strings.Repeat("a", 3997) + "){0}"}, {cat(repeat(999, 999, cat(a, a)), a, a), 4000, "(?:aa){999}aa"}, {cat(lazy(repeat(0, 1000, a)), repeat(998, -1, a), a), 4000, "a{0,1000}?a{998,}a"},
	} {
		if w := trees.Weight(x.tree); w != x.weight {
			t.Errorf("%.40s..: %d", x.want, w)
		}
		prints(t, x.tree, x.want)
		refuses(t, cat(x.tree, a))
	}
	for _, tree := range []api.Tree{cat(all(4000, a)...), alt(all(2001, empty())...), star(cat(all(3999, a)...)), repeat(1000, 1000, cat(a, a)), cat(all(100000, a)...)} {
		refuses(t, tree)
	}
}

// TestManyGroups: P9.1: as many groups as a tree may have, each with a name of its own, and without.
func TestManyGroups(t *testing.T) {
	named, want := cat(), ""
	for i := range 1333 {
		named.Kids = append(named.Kids, grp(i+1, name(i+1), letter('a')))
		want += "(?P<" + name(i+1) + ">a)"
	}
	prints(t, named, want)
	for i := range named.Kids {
		named.Kids[i].Name = ""
	}
	prints(t, named, strings.Repeat("(a)", 1333))
	named.Kids = append(named.Kids, letter('a'))
	refuses(t, named)
}

// TestGreat: what has more parts than could be gone through is no tree, and that is told soon.
func TestGreat(t *testing.T) {
	for _, deep := range []int{12, 40, 70} {
		for _, in := range []func(api.Tree) api.Tree{
			func(kid api.Tree) api.Tree { return cat(kid, kid) },
			func(kid api.Tree) api.Tree { return alt(kid, kid) },
			func(kid api.Tree) api.Tree { return repeat(1000, 1000, kid) },
			func(kid api.Tree) api.Tree { return star(cat(kid, kid, kid)) },
			func(kid api.Tree) api.Tree { return of(api.OpStar, kid, kid) },
		} {
			refuses(t, nested(deep, letter('a'), in))
		}
		if t.Failed() {
			return // what is taken for a tree here would be gone through next
		}
	}
	prints(t, nested(10, letter('a'), func(kid api.Tree) api.Tree { return cat(kid, kid) }), strings.Repeat("a", 1024))
}
