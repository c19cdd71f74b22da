package trees_test

import (
	"math"
	"slices"
	"strings"

	"martello/api"
	. "martello/samples"
)

// chain is a tree of that depth, and that weight.
func chain(depth int) api.Tree {
	t := Letter('a')
	for range depth - 1 {
		t = Star(t)
	}
	return t
}

// letters is an OpCat of so many: of one more weight.
func letters(n int) api.Tree {
	return Cat(slices.Repeat([]api.Tree{Letter('a')}, n)...)
}

// shared is a tree so deep, of whose parts each has another one twice: more than could be gone through.
func shared(depth int, of func(...api.Tree) api.Tree) api.Tree {
	t := Letter('a')
	for range depth - 1 {
		t = of(t, t)
	}
	return t
}

// eachOp are right trees, one of each Op at least.
func eachOp() []api.Tree {
	return []api.Tree{
		None(), Empty(), Letter('a'), Set('0', '9', 'a', 'z'), At(api.AtWord), Group(1, "x", Letter('a')), Group(1, "", None()),
		Star(Letter('a')), Plus(Empty()), Lazy(Quest(Set('a', 'b'))), Repeat(2, 3, Letter('a')), Lazy(Repeat(0, -1, Letter('a'))),
		Cat(), Cat(Letter('a')), Cat(Letter('a'), Group(1, "", Letter('b')), Empty()), Alt(Letter('a')), Alt(None(), Group(1, "y", Letter('b')), Star(Letter('c'))),
	}
}

// change makes one thing of a tree another one.
type change func(t *api.Tree)

// changes are values of each field, right and wrong ones.
func changes() []change {
	var all []change
	for _, v := range []rune{0, 1, 'a', 0xd800, 0x10ffff, 0x110000, -1, math.MinInt32, math.MaxInt32} {
		all = append(all, func(t *api.Tree) { t.Rune = v })
	}
	for _, v := range [][]api.Range{nil, {}, Ranges('a', 'z'), Ranges(0, 0x10ffff), Ranges(5, 5, 7, 7), Ranges(5, 5, 6, 7), Ranges(5, 4), Ranges(7, 7, 5, 5), Ranges(0, 0x110000), Ranges(-1, 5), Ranges('a', 'z', 'a', 'z')} {
		all = append(all, func(t *api.Tree) { t.Set = v })
	}
	for _, v := range []api.At{0, 1, 2, 3, 4, 8, 12, 16, 32, 48, 63, 64, -1, -32, math.MinInt, math.MaxInt} {
		all = append(all, func(t *api.Tree) { t.At = v })
	}
	for _, v := range []int{0, 1, 2, -1, math.MinInt, math.MaxInt} {
		all = append(all, func(t *api.Tree) { t.Cap = v })
	}
	for _, v := range append(rightNames(), append(wrongNames(), "")...) {
		all = append(all, func(t *api.Tree) { t.Name = v })
	}
	for _, v := range []int{0, 1, 2, 3, 999, 1000, 1001, -1, -2, math.MinInt, math.MaxInt} {
		all = append(all, func(t *api.Tree) { t.Min = v }, func(t *api.Tree) { t.Max = v })
	}
	for _, v := range []bool{false, true} {
		all = append(all, func(t *api.Tree) { t.Lazy = v })
	}
	for _, v := range [][]api.Tree{nil, {}, {Letter('b')}, {Letter('b'), Empty()}, {Letter(-1)}, {{}}, {Empty(), Letter('b'), Star(Letter('c'))}, {Empty(), {Op: 13}}, {Group(1, "z", Letter('b'))}, {Group(2, "x", Letter('b'))}} {
		all = append(all, func(t *api.Tree) { t.Kids = v })
	}
	return all
}

func rightNames() []string {
	return []string{"x", "_", "Z", "a", "z", "A", "x9", "_0", "Name_1", "____", strings.Repeat("n", 32), "_" + strings.Repeat("7", 31)}
}

func wrongNames() []string {
	return []string{"9", "0x", "1_", " ", "x ", " x", "a-b", "a.b", "é", "xé", "aＡ", "x\x00", "\x00", "\xff", "x\xff", "@", "[", "`", "{", "a@", "a[", "a`", "a{", "a/", "a:", strings.Repeat("n", 33), strings.Repeat("n", 70000)}
}

// smallTrees are all that are made of these leaves, so deep, of a part for each Op, some of them lazy, with two Kids at most; their groups have no numbers yet.
func smallTrees(depth int, leaves ...api.Tree) []api.Tree {
	all := leaves
	for range depth - 1 {
		next := append(slices.Clone(leaves), Cat())
		for _, t := range all {
			next = append(next, Group(0, "", t), Group(0, "x", t), Star(t), Lazy(Star(t)), Plus(t), Quest(t), Repeat(0, 0, t), Repeat(0, 2, t), Lazy(Repeat(2, -1, t)), Cat(t), Alt(t))
			for _, u := range all {
				next = append(next, Cat(t, u), Alt(t, u))
			}
		}
		all = next
	}
	return all
}
