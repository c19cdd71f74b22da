package simplify_test

import (
	"slices"
	"testing"

	"martello/api"
	. "martello/samples"
	"martello/simplify"
	"martello/trees"
)

// TestHeaviest: trees of the greatest weight; one more is no tree.
func TestHeaviest(t *testing.T) {
	a, b := Letter('a'), Letter('b')
	all := func(n int, kids ...api.Tree) []api.Tree { return slices.Repeat(kids, n) }
	for _, x := range []struct {
		tree   api.Tree
		weight int
		want   api.Tree
	}{
		{Cat(all(3999, a)...), 4000, Cat(all(3999, a)...)}, {Cat(all(3999, Empty())...), 4000, Empty()}, {Cat(all(3999, None())...), 4000, None()}, {Cat(all(1333, Cat(a, b))...), 4000, Cat(all(1333, a, b)...)}, {Alt(all(2000, a)...), 4000, Alt(all(2000, a)...)}, {Alt(all(2000, None())...), 4000, None()}, {Cat(all(1999, Star(At(1)))...), 3999, Empty()}, {Star(Cat(all(3998, At(1))...)), 4000, Empty()}, {Plus(Cat(all(3998, At(1))...)), 4000, Cat(all(3998, At(1))...)},
		{Cat(Repeat(999, 999, Cat(a, b)), a, a), 4000, Cat(append(all(999, a, b), a, a)...)}, {Repeat(0, 0, Cat(all(3997, a)...)), 4000, Empty()}, {Repeat(1, -1, Cat(all(3997, a)...)), 4000, Plus(Cat(all(3997, a)...))}, {Cat(Repeat(998, -1, a), Lazy(Repeat(1000, -1, b)), a), 4000, Cat(append(append(all(997, a), Plus(a)), append(all(999, b), Lazy(Plus(b)), a)...)...)},
	} {
		if w := trees.Weight(x.tree); w != x.weight {
			t.Errorf("%.40s..: %d", Shown(x.tree), w)
		}
		simple(t, x.tree, x.want)
		refuses(t, Cat(x.tree, a))
	}
}

// TestGreatestCount: what may be so often at most goes a thousand deep, so that what is told is shaped, and too deep to be right.
func TestGreatestCount(t *testing.T) {
	a := Letter('a')
	for _, slow := range []bool{false, true} {
		with := func(tree api.Tree) api.Tree { tree.Lazy = slow; return tree }
		want := with(Quest(a))
		for range 999 {
			want = with(Quest(Cat(a, want)))
		}
		tree := with(Repeat(0, 1000, a))
		simple(t, tree, want)
		if told := simplify.Simple(tree); trees.Depth(told) != 2000 {
			t.Error(trees.Depth(told))
		}
	}
	simple(t, Repeat(1000, 1000, a), Cat(slices.Repeat([]api.Tree{a}, 1000)...))
	simple(t, Repeat(999, 1000, a), Cat(append(slices.Repeat([]api.Tree{a}, 999), Quest(a))...))
	simple(t, Repeat(1000, -1, a), Cat(append(slices.Repeat([]api.Tree{a}, 999), Plus(a))...))
	simple(t, Repeat(1000, 1000, At(1)), Cat(slices.Repeat([]api.Tree{At(1)}, 1000)...))
	simple(t, Repeat(1000, 1000, None()), None())
	simple(t, Repeat(0, 1000, None()), Empty())
	simple(t, Repeat(0, 1000, Empty()), Empty())
	refuses(t, Repeat(1001, 1001, a))
	refuses(t, Repeat(0, 1001, a))
}

// TestDepth: trees of the greatest depth; one more is no tree.
func TestDepth(t *testing.T) {
	a, b := Letter('a'), Letter('b')
	for _, x := range []struct {
		in  func(api.Tree) api.Tree
		out func(api.Tree) api.Tree // what each becomes
	}{
		{Star, Star}, {Plus, Plus}, {func(kid api.Tree) api.Tree { return Lazy(Quest(kid)) }, func(kid api.Tree) api.Tree { return Lazy(Quest(kid)) }}, {func(kid api.Tree) api.Tree { return Cat(kid) }, func(kid api.Tree) api.Tree { return kid }}, {func(kid api.Tree) api.Tree { return Alt(kid) }, func(kid api.Tree) api.Tree { return kid }}, {func(kid api.Tree) api.Tree { return Cat(b, kid) }, func(kid api.Tree) api.Tree { return flat(b, kid) }}, {func(kid api.Tree) api.Tree { return Alt(kid, b) }, func(kid api.Tree) api.Tree { return Alt(kid, b) }},
		{func(kid api.Tree) api.Tree { return Repeat(0, -1, kid) }, Star}, {func(kid api.Tree) api.Tree { return Lazy(Repeat(0, 1, kid)) }, func(kid api.Tree) api.Tree { return Lazy(Quest(kid)) }}, {func(kid api.Tree) api.Tree { return Group(0, "", kid) }, func(kid api.Tree) api.Tree { return Group(0, "", kid) }},
	} {
		simple(t, Numbered(Nested(49, a, x.in)), Numbered(Nested(49, a, x.out)))
		refuses(t, Numbered(Nested(50, a, x.in)))
	}
}

// TestManyGroups: as many groups as a tree may have, and copies of them.
func TestManyGroups(t *testing.T) {
	all := Cat()
	for i := range 1333 {
		all.Kids = append(all.Kids, Group(i+1, Name(i+1), Letter('a')))
	}
	simple(t, all, all)
	some := Cat(all.Kids[:10]...)
	simple(t, Repeat(100, 100, some), Cat(slices.Repeat(some.Kids, 100)...))
}

// TestGreat: what has more parts than could be gone through is no tree, and that is told soon; what shares parts, and is not too heavy, is one.
func TestGreat(t *testing.T) {
	for _, tree := range TooMany() {
		refuses(t, tree)
		if t.Failed() {
			return // what is taken for a tree here would be gone through next
		}
	}
	simple(t, Nested(10, Letter('a'), func(kid api.Tree) api.Tree { return Cat(kid, kid) }), Cat(slices.Repeat([]api.Tree{Letter('a')}, 1024)...))
	simple(t, Nested(9, At(1), func(kid api.Tree) api.Tree { return Repeat(2, 2, kid) }), Cat(slices.Repeat([]api.Tree{At(1)}, 512)...))
}
