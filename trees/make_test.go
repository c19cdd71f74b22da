package trees_test

import (
	"math"
	"slices"
	"strings"

	"martello/api"
)

// The trees of each Op.

func none() api.Tree                      { return api.Tree{Op: api.OpNone} }
func empty() api.Tree                     { return api.Tree{Op: api.OpEmpty} }
func letter(c rune) api.Tree              { return api.Tree{Op: api.OpRune, Rune: c} }
func set(ends ...rune) api.Tree           { return api.Tree{Op: api.OpSet, Set: ranges(ends...)} }
func at(a api.At) api.Tree                { return api.Tree{Op: api.OpAt, At: a} }
func star(kid api.Tree) api.Tree          { return of(api.OpStar, kid) }
func plus(kid api.Tree) api.Tree          { return of(api.OpPlus, kid) }
func quest(kid api.Tree) api.Tree         { return of(api.OpQuest, kid) }
func cat(kids ...api.Tree) api.Tree       { return of(api.OpCat, kids...) }
func alt(kids ...api.Tree) api.Tree       { return of(api.OpAlt, kids...) }
func of(o api.Op, k ...api.Tree) api.Tree { return api.Tree{Op: o, Kids: k} }

func grp(n int, name string, kid api.Tree) api.Tree {
	return api.Tree{Op: api.OpCap, Cap: n, Name: name, Kids: []api.Tree{kid}}
}

func repeat(least, most int, kid api.Tree) api.Tree {
	return api.Tree{Op: api.OpRepeat, Min: least, Max: most, Kids: []api.Tree{kid}}
}

func lazy(t api.Tree) api.Tree {
	t.Lazy = true
	return t
}

// ranges are a list of them, by both ends each.
func ranges(ends ...rune) []api.Range {
	var l []api.Range
	for i := 0; i+1 < len(ends); i += 2 {
		l = append(l, api.Range{Lo: ends[i], Hi: ends[i+1]})
	}
	return l
}

// chain is a tree of that depth, and that weight.
func chain(depth int) api.Tree {
	t := letter('a')
	for range depth - 1 {
		t = star(t)
	}
	return t
}

// letters is an OpCat of so many: of one more weight.
func letters(n int) api.Tree {
	return cat(slices.Repeat([]api.Tree{letter('a')}, n)...)
}

// shared is a tree so deep, of whose parts each has another one twice: more than could be gone through.
func shared(depth int, of func(...api.Tree) api.Tree) api.Tree {
	t := letter('a')
	for range depth - 1 {
		t = of(t, t)
	}
	return t
}

// eachOp are right trees, one of each Op at least.
func eachOp() []api.Tree {
	return []api.Tree{
		none(), empty(), letter('a'), set('0', '9', 'a', 'z'), at(api.AtWord), grp(1, "x", letter('a')), grp(1, "", none()),
		star(letter('a')), plus(empty()), lazy(quest(set('a', 'b'))), repeat(2, 3, letter('a')), lazy(repeat(0, -1, letter('a'))),
		cat(), cat(letter('a')), cat(letter('a'), grp(1, "", letter('b')), empty()), alt(letter('a')), alt(none(), grp(1, "y", letter('b')), star(letter('c'))),
	}
}

// change makes one thing of a tree another one.
type change func(t *api.Tree)

// changes are values of each field, right and wrong ones.
func changes() []change {
	var all []change
	for _, v := range []rune{0, 1, 'a', 0xd800, 0x10ffff, 0x110000, -1, math.MinInt32, math.MaxInt32} {
		all = append(all, func(t *api.Tree) { t.Rune = v })
	}
	for _, v := range [][]api.Range{nil, {}, ranges('a', 'z'), ranges(0, 0x10ffff), ranges(5, 5, 7, 7), ranges(5, 5, 6, 7), ranges(5, 4), ranges(7, 7, 5, 5), ranges(0, 0x110000), ranges(-1, 5), ranges('a', 'z', 'a', 'z')} {
		all = append(all, func(t *api.Tree) { t.Set = v })
	}
	for _, v := range []api.At{0, 1, 2, 3, 4, 8, 12, 16, 32, 48, 63, 64, -1, -32, math.MinInt, math.MaxInt} {
		all = append(all, func(t *api.Tree) { t.At = v })
	}
	for _, v := range []int{0, 1, 2, -1, math.MinInt, math.MaxInt} {
		all = append(all, func(t *api.Tree) { t.Cap = v })
	}
	for _, v := range append(rightNames(), append(wrongNames(), "")...) {
		all = append(all, func(t *api.Tree) { t.Name = v })
	}
	for _, v := range []int{0, 1, 2, 3, 999, 1000, 1001, -1, -2, math.MinInt, math.MaxInt} {
		all = append(all, func(t *api.Tree) { t.Min = v }, func(t *api.Tree) { t.Max = v })
	}
	for _, v := range []bool{false, true} {
		all = append(all, func(t *api.Tree) { t.Lazy = v })
	}
	for _, v := range [][]api.Tree{nil, {}, {letter('b')}, {letter('b'), empty()}, {letter(-1)}, {{}}, {empty(), letter('b'), star(letter('c'))}, {empty(), {Op: 13}}, {grp(1, "z", letter('b'))}, {grp(2, "x", letter('b'))}} {
		all = append(all, func(t *api.Tree) { t.Kids = v })
	}
	return all
}

func rightNames() []string {
	return []string{"x", "_", "Z", "a", "z", "A", "x9", "_0", "Name_1", "____", strings.Repeat("n", 32), "_" + strings.Repeat("7", 31)}
}

func wrongNames() []string {
	return []string{"9", "0x", "1_", " ", "x ", " x", "a-b", "a.b", "é", "xé", "aＡ", "x\x00", "\x00", "\xff", "x\xff", "@", "[", "`", "{", "a@", "a[", "a`", "a{", "a/", "a:", strings.Repeat("n", 33), strings.Repeat("n", 70000)}
}

// smallTrees are all that are made of these leaves, so deep, of a part for each Op, some of them lazy, with two Kids at most; their groups have no numbers yet.
func smallTrees(depth int, leaves ...api.Tree) []api.Tree {
	all := leaves
	for range depth - 1 {
		next := append(slices.Clone(leaves), cat())
		for _, t := range all {
			next = append(next, grp(0, "", t), grp(0, "x", t), star(t), lazy(star(t)), plus(t), quest(t), repeat(0, 0, t), repeat(0, 2, t), lazy(repeat(2, -1, t)), cat(t), alt(t))
			for _, u := range all {
				next = append(next, cat(t, u), alt(t, u))
			}
		}
		all = next
	}
	return all
}
