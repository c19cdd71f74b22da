package prefix_test

import (
	"slices"
	"strings"
	"testing"

	"martello/api"
	. "martello/samples"
	"martello/trees"
)

// many is a list of so many of the same tree.
func many(n int, tree api.Tree) []api.Tree { return slices.Repeat([]api.Tree{tree}, n) }

// TestTooGreat: F1: trees that are too deep, or too heavy, to be right: they need only be shaped.
func TestTooGreat(t *testing.T) {
	for _, tree := range TooGreat() {
		if trees.Right(tree) {
			t.Error(brief(tree))
		}
		asModelled(t, tree)
	}
}

// TestDeep: F1: so deep as may be, of each kind of part.
func TestDeep(t *testing.T) {
	a, b := Letter('a'), Letter('b')
	for _, x := range []struct {
		in    func(api.Tree) api.Tree
		want  func(n int) string
		exact bool
	}{
		{func(kid api.Tree) api.Tree { return Cat(kid) }, func(int) string { return "a" }, true},
		{func(kid api.Tree) api.Tree { return Alt(kid) }, func(int) string { return "a" }, true},
		{func(kid api.Tree) api.Tree { return Group(1, "x", kid) }, func(int) string { return "a" }, true},
		{func(kid api.Tree) api.Tree { return Cat(b, kid) }, func(n int) string { return strings.Repeat("b", n) + "a" }, true},
		{func(kid api.Tree) api.Tree { return Cat(kid, b) }, func(n int) string { return "a" + strings.Repeat("b", n) }, true},
		{func(kid api.Tree) api.Tree { return Cat(Empty(), kid, b, Quest(b)) }, func(n int) string { return "a" + strings.Repeat("b", min(n, 1)) }, false},
		{Plus, func(int) string { return "a" }, false},
		{func(kid api.Tree) api.Tree { return Repeat(1000, -1, kid) }, func(int) string { return "a" }, false},
		{func(kid api.Tree) api.Tree { return Plus(Cat(b, kid)) }, func(n int) string { return strings.Repeat("b", n) + "a" }, false},
		{Star, func(int) string { return "" }, false},
		{func(kid api.Tree) api.Tree { return Alt(kid, b) }, func(int) string { return "" }, false},
	} {
		for _, depth := range []int{1, 49, 50, 51, 1000, 1<<15 - 1} {
			begins(t, Nested(depth, a, x.in), x.want(depth), x.exact)
		}
		begins(t, Nested(1000, Letter(-1), x.in), "", false)
	}
	begins(t, Nested(1<<16-1, a, func(kid api.Tree) api.Tree { return Group(1, "", kid) }), "a", true)
	begins(t, Nested(1<<16-1, Letter(-1), Plus), "", false)
}

// TestWide: F1: very many Kids.
func TestWide(t *testing.T) {
	a, n := Letter('a'), 1<<18
	all := strings.Repeat("a", n)
	begins(t, Cat(many(n, a)...), all, true)
	begins(t, Cat(append(many(n, a), At(api.AtEnd))...), all, false)
	begins(t, Cat(append([]api.Tree{Plus(a)}, many(n, a)...)...), "a", false)
	begins(t, Cat(append(many(n, Empty()), a)...), "a", true)
	begins(t, Cat(append(many(n, a), Letter(-1))...), "", false)
	begins(t, Alt(many(n, a)...), "", false)
	begins(t, Repeat(1000, 1000, Cat(many(n, a)...)), all, false)
	begins(t, Nested(16, Cat(a, a, a, a), func(kid api.Tree) api.Tree { return Cat(kid, kid) }), all, true)
}

// TestLongTexts: F2: in the greatest texts, what stands at the end, nowhere, and everywhere but for one rune.
func TestLongTexts(t *testing.T) {
	text := strings.Repeat("a", api.MaxText-1) + "b"
	in := Made(t, text)
	n := in.Len()
	repeat := func(n int) []rune { return slices.Repeat([]rune{'a'}, n) }
	stands(t, in, []rune("b"), 0, n-1)
	stands(t, in, []rune("ab"), 0, n-2)
	stands(t, in, []rune("ba"), 0, -1)
	stands(t, in, []rune(text), 0, 0)
	stands(t, in, []rune(text), 1, -1)
	stands(t, in, []rune(text+"b"), 0, -1)
	stands(t, in, []rune("a"+text), 0, -1)
	stands(t, in, slices.Repeat([]rune{'a'}, 1<<20), 0, -1)
	stands(t, in, nil, n, n)
	stands(t, in, nil, n+1, -1)
	for _, m := range []int{1, 2, 1000, n / 2, n - 1} {
		stands(t, in, append(repeat(m), 'b'), 0, n-1-m)
		stands(t, in, repeat(m), 0, 0)
		stands(t, in, repeat(m), n-1-m, n-1-m)
		stands(t, in, repeat(m), n-m, -1)
		stands(t, in, append([]rune{'c'}, repeat(m)...), 0, -1)
		stands(t, in, append(repeat(m), 'c'), 0, -1)
		stands(t, in, slices.Concat(repeat(m/2), []rune{'b'}, repeat(m/2)), 0, []int{n - 1, -1}[min(m/2, 1)])
	}
}

// TestTurnedTexts: F2: an input turned may have more bytes than a text may; places are those of its runes.
func TestTurnedTexts(t *testing.T) {
	in := Made(t, "ab"+strings.Repeat("\xff", api.MaxText-2)).Turned()
	n := in.Len()
	stands(t, in, []rune("ba"), 0, n-2)
	stands(t, in, []rune{0xfffd, 'b'}, 0, n-3)
	stands(t, in, []rune{'a', 0xfffd}, 0, -1)
	stands(t, in, slices.Repeat([]rune{0xfffd}, n-2), 0, 0)
	stands(t, in, slices.Repeat([]rune{0xfffd}, n-1), 0, -1)
}
