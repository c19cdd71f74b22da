package trees_test

import (
	"math"
	"slices"
	"strings"
	"testing"

	"martello/api"
	"martello/trees"
)

// The calls of the chapter, by their signatures.
var (
	_ func(api.Tree) bool     = trees.Right
	_ func(api.Tree) int      = trees.Depth
	_ func(api.Tree) int      = trees.Weight
	_ func(api.Tree) []string = trees.Caps
	_ func(api.Tree) bool     = trees.Empty
	_ func(api.Tree) bool     = trees.Still
	_ func(api.Tree) api.Tree = trees.Turned
	_ func(api.Tree) bool     = trees.Shaped
)

// tells holds Right and Shaped of a tree against what they must be, and, of one that is not right, that nothing else is told of it.
func tells(t *testing.T, tree api.Tree, right, shaped bool) {
	t.Helper()
	if r := trees.Right(tree); r != right {
		t.Errorf("%s: Right %v", show(tree), r)
	}
	if s := trees.Shaped(tree); s != shaped {
		t.Errorf("%s: Shaped %v", show(tree), s)
	}
	if !right {
		nothing(t, tree)
	}
}

// nothing holds that of a tree that is not right there are no Caps, that it is not Empty and not Still, and that turned it is a zero tree.
func nothing(t *testing.T, tree api.Tree) {
	t.Helper()
	if c := trees.Caps(tree); len(c) != 0 {
		t.Errorf("%s: Caps %q", show(tree), c)
	}
	if trees.Empty(tree) || trees.Still(tree) {
		t.Errorf("%s: Empty, or Still", show(tree))
	}
	if u := trees.Turned(tree); !same(u, api.Tree{}) {
		t.Errorf("%s: turned %s", show(tree), show(u))
	}
}

// TestExamples: the chapter's table.
func TestExamples(t *testing.T) {
	x := cat(grp(1, "x", letter('b')), star(letter('a')))
	if d, w, c := trees.Depth(x), trees.Weight(x), trees.Caps(x); d != 3 || w != 6 || !slices.Equal(c, []string{"", "x"}) {
		t.Error(d, w, c)
	}
	if w := trees.Weight(repeat(2, 3, letter('a'))); w != 7 {
		t.Error(w)
	}
}

// TestRight: a right tree of each Op, and both ends of what each field may be.
func TestRight(t *testing.T) {
	all := append(eachOp(),
		letter(0), letter(0x10ffff), letter(0xd800), set(0, 0), set(0, 0x10ffff), set(0x10ffff, 0x10ffff), set(5, 5, 7, 7),
		at(api.AtBegin), at(api.AtEnd), at(api.AtBeginLine), at(api.AtEndLine), at(api.AtNoWord),
		repeat(0, 0, letter('a')), repeat(0, 1000, letter('a')), repeat(1000, 1000, letter('a')), repeat(1000, -1, letter('a')), repeat(3, 3, letter('a')), lazy(star(none())), lazy(plus(letter('a'))),
		cat(cat(cat()), alt(alt(empty()))), letters(1000), alt(slices.Repeat([]api.Tree{none()}, 1000)...),
		api.Tree{Op: api.OpCat, Kids: []api.Tree{}, Set: []api.Range{}}, api.Tree{Op: api.OpRune, Rune: 'a', Kids: []api.Tree{}, Set: []api.Range{}},
	)
	for _, name := range rightNames() {
		all = append(all, grp(1, name, letter('a')))
	}
	for _, tree := range all {
		tells(t, tree, true, true)
		tells(t, cat(empty(), tree), true, true)
	}
}

// TestNotRight: one thing wrong each, which makes no shape of it either: alone, and as a Kid.
func TestNotRight(t *testing.T) {
	a, b := letter('a'), letter('b')
	all := []api.Tree{
		{}, {Op: -1}, {Op: 13}, {Op: math.MinInt}, {Op: math.MaxInt}, {Op: 13, Kids: []api.Tree{a}}, {Op: 0, Kids: []api.Tree{a}}, // no Op
		of(api.OpNone, a), of(api.OpEmpty, a), {Op: api.OpRune, Rune: 'a', Kids: []api.Tree{b}}, {Op: api.OpSet, Set: ranges(1, 2), Kids: []api.Tree{a}}, {Op: api.OpAt, At: 1, Kids: []api.Tree{a}}, // a Kid too many
		{Op: api.OpCap, Cap: 1, Kids: []api.Tree{a, b}}, of(api.OpStar, a, b), of(api.OpPlus, a, b), of(api.OpQuest, a, b), {Op: api.OpRepeat, Max: 1, Kids: []api.Tree{a, b}},
		{Op: api.OpCap, Cap: 1}, of(api.OpStar), of(api.OpPlus), of(api.OpQuest), {Op: api.OpRepeat, Max: 1}, alt(), {Op: api.OpAlt, Kids: []api.Tree{}}, // a Kid too few
		letter(-1), letter(0x110000), letter(math.MinInt32), letter(math.MaxInt32), // no rune
		set(), {Op: api.OpSet, Set: []api.Range{}}, set(5, 4), set(1, 2, 3, 4), set(1, 5, 5, 9), set(7, 9, 1, 5), set(-1, 5), set(5, 0x110000), // no set, or an empty one
		at(0), at(3), at(5), at(12), at(48), at(63), at(64), at(-1), at(math.MinInt), at(math.MaxInt), // none of the six
		grp(0, "", a), grp(-1, "", a), grp(math.MinInt, "", a), // no number of a group
		repeat(-1, 5, a), repeat(-1, -1, a), repeat(1001, -1, a), repeat(1001, 1001, a), repeat(1000, 1001, a), repeat(0, 1001, a), repeat(0, -2, a), repeat(2, 1, a), repeat(1000, 999, a), repeat(2, 0, a), repeat(math.MinInt, 0, a), repeat(0, math.MinInt, a), repeat(math.MaxInt, -1, a), repeat(0, math.MaxInt, a), repeat(math.MaxInt, math.MaxInt, a),
	}
	for _, name := range wrongNames() {
		all = append(all, grp(1, name, a))
	}
	for _, tree := range all {
		tells(t, tree, false, false)
		for _, of := range []api.Tree{star(tree), cat(tree), cat(a, tree), alt(tree, a), cat(star(alt(b, tree)), b), repeat(0, 0, tree), grp(1, "", plus(tree))} {
			if tree.Op == api.OpCap && of.Op == api.OpCap {
				continue // the number would be wrong, too
			}
			tells(t, of, false, false)
		}
	}
}

// TestOtherFields: each field that an Op has not, and is not zero.
func TestOtherFields(t *testing.T) {
	all := rules()
	for _, tree := range eachOp() {
		for field, c := range map[string]change{
			"Rune": func(t *api.Tree) { t.Rune = 'a' },
			"Set":  func(t *api.Tree) { t.Set = ranges('a', 'b') },
			"At":   func(t *api.Tree) { t.At = api.AtBegin },
			"Cap":  func(t *api.Tree) { t.Cap = 1 },
			"Name": func(t *api.Tree) { t.Name = "name" },
			"Min":  func(t *api.Tree) { t.Min = 1 },
			"Max":  func(t *api.Tree) { t.Max = 1 },
			"Lazy": func(t *api.Tree) { t.Lazy = true },
		} {
			if !all[tree.Op].may(field) {
				changed := copied(tree)
				c(&changed)
				tells(t, changed, false, false)
			}
		}
	}
}

// TestChanged: all of T1 to T4 of a tree of each Op, and of Ops that there are not, with two things changed, as the model has it.
func TestChanged(t *testing.T) {
	m := newModel()
	all := append(eachOp(), api.Tree{}, api.Tree{Op: -1}, api.Tree{Op: 13}, api.Tree{Op: 15, Kids: []api.Tree{letter('a')}})
	for _, tree := range all {
		for i, c := range changes() {
			for _, d := range changes()[i:] {
				changed := copied(tree)
				c(&changed)
				d(&changed)
				holds(t, m, changed)
			}
		}
		if t.Failed() {
			return
		}
	}
}

// TestGroups: numbers that are not those in which groups begin, and names that stand twice: shaped, and not right.
func TestGroups(t *testing.T) {
	a := letter('a')
	for _, tree := range []api.Tree{
		grp(1, "", a), grp(1, "x", grp(2, "y", grp(3, "z", a))), cat(grp(1, "x", a), grp(2, "X", a)), cat(grp(1, "", a), grp(2, "", a), grp(3, "", a)),
		cat(star(grp(1, "", alt(grp(2, "", a), grp(3, "", a)))), grp(4, "", a)), alt(grp(1, "x", a), cat(a, grp(2, "x1", a))),
	} {
		tells(t, tree, true, true)
	}
	for _, tree := range []api.Tree{
		grp(2, "", a), grp(math.MaxInt, "x", a), cat(grp(2, "", a), grp(1, "", a)), cat(grp(1, "", a), grp(1, "", a)), cat(grp(1, "", a), grp(3, "", a)), cat(grp(1, "", a), grp(2, "", a), grp(2, "", a)),
		grp(2, "", grp(1, "", a)), grp(1, "", grp(1, "", a)), grp(1, "", grp(3, "", a)), cat(grp(1, "", a), grp(3, "", grp(2, "", a))), cat(star(grp(1, "", alt(grp(3, "", a), grp(4, "", a)))), grp(2, "", a)), cat(grp(1, "", cat()), a, grp(2, "", a), plus(grp(1, "", a))),
	} {
		tells(t, tree, false, true)
	}
	for _, tree := range []api.Tree{
		cat(grp(1, "x", a), grp(2, "x", a)), grp(1, "x", grp(2, "x", a)), alt(grp(1, "x", a), grp(2, "y", a), star(grp(3, "x", a))), cat(grp(1, "x", grp(2, "", a)), grp(3, "", grp(4, "x", a))),
	} {
		tells(t, tree, false, true)
	}
}

// TestDepth: of each Op, of what is none, and at the edge.
func TestDepth(t *testing.T) {
	for _, x := range []struct {
		t    api.Tree
		want int
	}{
		{api.Tree{}, 1}, {api.Tree{Op: 13}, 1}, {none(), 1}, {empty(), 1}, {letter('a'), 1}, {set(1, 2), 1}, {at(1), 1}, {cat(), 1}, {alt(), 1}, {of(api.OpStar), 1},
		{grp(1, "", empty()), 2}, {star(empty()), 2}, {plus(empty()), 2}, {quest(empty()), 2}, {repeat(0, 0, empty()), 2}, {repeat(1000, 1000, empty()), 2}, {cat(empty()), 2}, {alt(empty()), 2},
		{cat(empty(), star(star(empty())), star(empty())), 4}, {alt(star(star(star(empty()))), empty()), 5}, {cat(empty(), empty(), quest(empty())), 3},
		{of(13, letter('a')), 2}, {of(api.OpRune, star(letter('a'))), 3}, {of(0, of(-5, api.Tree{})), 3},
		{chain(49), 49}, {chain(50), 50}, {chain(51), 51}, {chain(1 << 16), 1 << 16}, {shared(12, cat), 12},
	} {
		if d := trees.Depth(x.t); d != x.want {
			t.Errorf("%s: Depth %d; not %d", show(x.t), d, x.want)
		}
	}
	tells(t, chain(49), true, true)
	tells(t, chain(50), true, true)
	tells(t, cat(empty(), chain(49), empty()), true, true)
	for _, tree := range []api.Tree{chain(51), chain(52), cat(empty(), chain(50), empty()), alt(chain(50)), repeat(0, 0, chain(50)), grp(1, "", chain(50)), chain(4000), chain(4001), chain(1 << 16)} {
		tells(t, tree, false, true)
	}
}

// TestWeight: of each Op, and of what is none.
func TestWeight(t *testing.T) {
	a, aa := letter('a'), cat(letter('a'), letter('a')) // 1, 3
	for _, x := range []struct {
		t    api.Tree
		want int
	}{
		{none(), 1}, {empty(), 1}, {a, 1}, {set(1, 2, 4, 5), 1}, {at(1), 1}, {cat(), 1}, {aa, 3}, {cat(aa, aa, a), 8}, {alt(a), 2}, {alt(a, aa), 6}, {alt(a, a, a), 6},
		{grp(1, "", a), 3}, {grp(1, "name", aa), 5}, {grp(1, "", grp(2, "", a)), 5}, {star(aa), 4}, {lazy(plus(aa)), 4}, {quest(aa), 4}, {star(plus(quest(a))), 4},
		{repeat(0, 0, aa), 5}, {repeat(0, 1, aa), 5}, {repeat(1, -1, aa), 5}, {repeat(0, -1, aa), 5}, {repeat(3, -1, aa), 13}, {repeat(2, 3, aa), 13}, {repeat(3, 3, aa), 13}, {repeat(0, 3, aa), 13}, {repeat(5, 5, repeat(2, 3, a)), 41},
		{api.Tree{}, 1}, {api.Tree{Op: 13}, 1}, {of(13, aa, aa), 1}, {of(-1, aa), 1}, {of(0, aa), 1}, {of(api.OpRune, aa), 1}, {of(api.OpNone, aa, aa), 1}, {of(api.OpAt, aa), 1}, {of(api.OpEmpty, aa), 1}, {of(api.OpSet, aa), 1},
		{alt(), 0}, {alt(alt()), 1}, {cat(alt(), alt()), 1}, {of(api.OpCap), 2}, {of(api.OpCap, aa, aa), 8}, {of(api.OpStar), 1}, {of(api.OpPlus, a, aa), 5}, {of(api.OpQuest, aa, aa), 7},
		{of(api.OpRepeat), 2}, {api.Tree{Op: api.OpRepeat, Min: 9}, 10}, {repeat(-5, -9, aa), 5}, {repeat(7, 2, a), 15}, {repeat(2, 1, alt()), 3}, {api.Tree{Op: api.OpRepeat, Min: 2, Kids: []api.Tree{aa, a}}, 11},
	} {
		if w := trees.Weight(x.t); w != x.want {
			t.Errorf("%s: Weight %d; not %d", show(x.t), w, x.want)
		}
	}
}

// TestWeightEdge: trees of 4000, and of 4001, of each Op that has Kids.
func TestWeightEdge(t *testing.T) {
	full := []api.Tree{
		letters(3999), star(letters(3998)), plus(letters(3998)), quest(letters(3998)), grp(1, "", letters(3997)), alt(letters(3998)), alt(slices.Repeat([]api.Tree{empty()}, 2000)...),
		repeat(1, 1, letters(3997)), repeat(0, 0, letters(3997)), repeat(0, -1, letters(3997)), cat(repeat(999, 999, letters(2)), empty(), empty()), cat(repeat(0, 1000, star(letter('a'))), letters(997)),
	}
	for _, tree := range full {
		if w := trees.Weight(tree); w != 4000 {
			t.Errorf("%s: Weight %d", show(tree), w)
		}
		tells(t, tree, true, true)
		for _, over := range []api.Tree{star(tree), cat(tree), cat(tree, empty()), quest(tree), alt(tree), alt(tree, tree), repeat(0, 0, tree), repeat(2, -1, tree), grp(0, "", tree), cat(empty(), tree, tree)} {
			over = fromOne(over)
			if w := trees.Weight(over); w != 4001 {
				t.Errorf("%s: Weight %d", show(over), w)
			}
			tells(t, over, false, true)
		}
	}
	for _, over := range []api.Tree{letters(4000), repeat(1000, 1000, letters(2)), repeat(0, 1000, letters(2)), repeat(1000, -1, letters(2)), letters(100000), alt(slices.Repeat([]api.Tree{empty()}, 2001)...)} {
		if w := trees.Weight(over); w != 4001 {
			t.Errorf("%s: Weight %d", show(over), w)
		}
		tells(t, over, false, true)
	}
}

// TestWeightGreat: what would pass an int, by products, by numbers that no count has, and by parts that are shared: it ends, and weighs 4001.
func TestWeightGreat(t *testing.T) {
	product := letter('a')
	for range 40 {
		product = repeat(1000, 1000, product)
	}
	tells(t, product, false, true)
	aa := letters(2)
	for _, tree := range []api.Tree{
		product, repeat(0, math.MaxInt, letter('a')), repeat(math.MaxInt, 0, aa), repeat(math.MaxInt, math.MaxInt, alt()), repeat(math.MaxInt, math.MaxInt, repeat(math.MaxInt, math.MaxInt, aa)), repeat(math.MaxInt/2, 0, aa), repeat(math.MaxInt32, 0, aa), repeat(1<<62, -1, letters(4)), repeat(4000, 0, alt()),
		shared(70, cat), shared(70, alt), shared(70, func(k ...api.Tree) api.Tree { return of(api.OpPlus, k...) }), shared(70, func(k ...api.Tree) api.Tree { return of(api.OpCap, k...) }), shared(70, func(k ...api.Tree) api.Tree { return of(api.OpRepeat, k...) }),
	} {
		if w := trees.Weight(tree); w != 4001 {
			t.Errorf("%s: Weight %d", show(tree), w)
		}
		if trees.Right(tree) {
			t.Errorf("%s: right", show(tree))
		}
		nothing(t, tree)
	}
	if w := trees.Weight(repeat(3999, 0, alt())); w != 4000 {
		t.Error(w)
	}
	// What is no tree weighs little, however much it has: it ends all the same.
	if tree := (api.Tree{Op: api.OpRune, Rune: 'a', Kids: []api.Tree{shared(70, cat)}}); trees.Weight(tree) != 1 || trees.Right(tree) || trees.Shaped(tree) {
		t.Error("a rune of many Kids")
	}
}

// TestCaps: the whole, and names by numbers; new each time.
func TestCaps(t *testing.T) {
	a := letter('a')
	for _, x := range []struct {
		t    api.Tree
		want string
	}{
		{none(), ""}, {a, ""}, {cat(), ""}, {grp(1, "", a), ","}, {grp(1, "x", a), ",x"}, {star(grp(1, "x", a)), ",x"}, {plus(grp(1, "x", a)), ",x"}, {quest(grp(1, "x", a)), ",x"}, {repeat(5, 9, grp(1, "x", a)), ",x"}, {repeat(0, 0, grp(1, "x", a)), ",x"},
		{grp(1, "out", cat(grp(2, "in", a), grp(3, "", a))), ",out,in,"}, {alt(grp(1, "z", a), grp(2, "", grp(3, "a", a)), grp(4, "m", a)), ",z,,a,m"}, {cat(grp(1, "", a), star(grp(2, "", grp(3, "", a))), grp(4, "b", a)), ",,,,b"},
	} {
		if c := strings.Join(trees.Caps(x.t), ","); c != x.want || len(trees.Caps(x.t)) != strings.Count(x.want, ",")+1 {
			t.Errorf("%s: Caps %q; not %q", show(x.t), c, x.want)
		}
	}
}

// TestEmpty: Empty and Still of each Op, written out.
func TestEmpty(t *testing.T) {
	a, e, n := letter('a'), empty(), none()
	for _, x := range []struct {
		t            api.Tree
		empty, still bool
	}{
		{n, false, true}, {e, true, true}, {a, false, false}, {set(1, 2), false, false}, {at(1), true, true}, {at(32), true, true},
		{star(a), true, false}, {star(e), true, true}, {star(n), true, true}, {lazy(star(a)), true, false}, {quest(a), true, false}, {quest(at(2)), true, true}, {quest(n), true, true},
		{grp(1, "", a), false, false}, {grp(1, "x", e), true, true}, {grp(1, "", n), false, true}, {plus(a), false, false}, {plus(e), true, true}, {plus(n), false, true}, {plus(star(a)), true, false},
		{repeat(0, 5, a), true, false}, {repeat(0, 0, a), true, false}, {repeat(0, -1, n), true, true}, {repeat(1, 1, a), false, false}, {repeat(2, -1, e), true, true}, {repeat(3, 4, quest(a)), true, false}, {repeat(1, 2, n), false, true},
		{cat(), true, true}, {cat(e, at(4)), true, true}, {cat(a), false, false}, {cat(star(a), quest(a)), true, false}, {cat(star(a), a), false, false}, {cat(a, e), false, false}, {cat(e, n), false, true}, {cat(e, star(e)), true, true}, {cat(n, a), false, false},
		{alt(a), false, false}, {alt(e), true, true}, {alt(a, e), true, false}, {alt(e, a), true, false}, {alt(a, a, at(16)), true, false}, {alt(n, n), false, true}, {alt(n, e), true, true}, {alt(n, a), false, false}, {alt(a, cat(e, a)), false, false},
		{cat(grp(1, "", alt(a, cat())), plus(grp(2, "", at(8)))), true, false}, {star(cat(e, plus(alt(n, repeat(2, 2, at(1)))))), true, true}, {star(cat(e, plus(alt(n, repeat(2, 2, set(5, 5)))))), true, false},
	} {
		if trees.Empty(x.t) != x.empty || trees.Still(x.t) != x.still {
			t.Errorf("%s: Empty %v, Still %v", show(x.t), trees.Empty(x.t), trees.Still(x.t))
		}
		tells(t, x.t, true, true)
	}
}

// TestTurned: of each Op, written out.
func TestTurned(t *testing.T) {
	a, b, c := letter('a'), letter('b'), letter('c')
	for _, x := range []struct{ t, want api.Tree }{
		{none(), none()}, {empty(), empty()}, {a, a}, {set(1, 2, 4, 5), set(1, 2, 4, 5)},
		{at(api.AtBegin), at(api.AtEnd)}, {at(api.AtEnd), at(api.AtBegin)}, {at(api.AtBeginLine), at(api.AtEndLine)}, {at(api.AtEndLine), at(api.AtBeginLine)}, {at(api.AtWord), at(api.AtWord)}, {at(api.AtNoWord), at(api.AtNoWord)},
		{grp(1, "x", a), a}, {grp(1, "", grp(2, "", cat(a, b))), cat(b, a)}, {star(grp(1, "", a)), star(a)},
		{star(cat(a, b)), star(cat(b, a))}, {lazy(star(cat(a, b))), lazy(star(cat(b, a)))}, {plus(cat(a, b)), plus(cat(b, a))}, {lazy(plus(at(1))), lazy(plus(at(2)))}, {quest(cat(a, b)), quest(cat(b, a))}, {lazy(quest(a)), lazy(quest(a))}, {repeat(2, 3, cat(a, b)), repeat(2, 3, cat(b, a))}, {lazy(repeat(1, -1, grp(1, "", a))), lazy(repeat(1, -1, a))},
		{cat(), cat()}, {cat(a), cat(a)}, {cat(a, b, c), cat(c, b, a)}, {cat(a, cat(b, c), at(2)), cat(at(1), cat(c, b), a)}, {cat(grp(1, "", cat(a, b)), c), cat(c, cat(b, a))}, {cat(at(4), star(a), at(8)), cat(at(4), star(a), at(8))},
		{alt(a, b), alt(a, b)}, {alt(cat(a, b), grp(1, "x", c), at(4)), alt(cat(b, a), c, at(8))},
	} {
		if u := trees.Turned(x.t); !same(u, x.want) {
			t.Errorf("%s: turned %s; not %s", show(x.t), show(u), show(x.want))
		}
	}
}

// holds holds all that is told of a tree against the model, and P5.2, P5.3 of a right one; the tree stays as it was.
func holds(t *testing.T, m model, tree api.Tree) {
	t.Helper()
	before := copied(tree)
	right := len(m.wrong(tree)) == 0
	tells(t, tree, right, len(m.misshapen(tree)) == 0)
	if d, w := trees.Depth(tree), trees.Weight(tree); d != m.depth(tree) || w != m.weight(tree) {
		t.Errorf("%s: Depth %d, Weight %d; not %d, %d", show(tree), d, w, m.depth(tree), m.weight(tree))
	}
	if right {
		holdsRight(t, m, tree)
		holdsTurned(t, m, tree)
	}
	if !same(tree, before) {
		t.Errorf("%s: was %s", show(tree), show(before))
	}
}

// holdsRight: T2 and P5.3, and of P5.2 the Kids.
func holdsRight(t *testing.T, m model, tree api.Tree) {
	t.Helper()
	names := []string{""}
	for _, g := range m.groups(tree) {
		names = append(names, g.Name)
	}
	if c := trees.Caps(tree); !slices.Equal(c, names) {
		t.Errorf("%s: Caps %q; not %q", show(tree), c, names)
	}
	empty, still := trees.Empty(tree), trees.Still(tree)
	if empty != (m.least(tree) == 0) || still != m.still(tree) {
		t.Errorf("%s: Empty %v, Still %v", show(tree), empty, still)
	}
	if still && !empty && !m.has(tree, "None") {
		t.Errorf("%s: Still, and not Empty", show(tree))
	}
	for _, kid := range tree.Kids {
		if !trees.Shaped(kid) || !trees.Right(fromOne(kid)) {
			t.Errorf("%s: its Kid %s is not right", show(tree), show(kid))
		}
	}
}

// holdsTurned: T3, and of P5.2 what is turned twice; a turned tree is right, and may fit nothing, or never fits more, just where the tree does.
func holdsTurned(t *testing.T, m model, tree api.Tree) {
	t.Helper()
	u := trees.Turned(tree)
	if want := m.ungrouped(tree, true); !same(u, want) {
		t.Errorf("%s: turned %s; not %s", show(tree), show(u), show(want))
	}
	if v, want := trees.Turned(u), m.ungrouped(tree, false); !same(v, want) {
		t.Errorf("%s: turned twice %s; not %s", show(tree), show(v), show(want))
	}
	if !trees.Right(u) || len(trees.Caps(u)) != 1 || trees.Empty(u) != trees.Empty(tree) || trees.Still(u) != trees.Still(tree) {
		t.Errorf("%s: turned %s: Right %v, Empty %v, Still %v", show(tree), show(u), trees.Right(u), trees.Empty(u), trees.Still(u))
	}
}

// TestSmallTrees: all promises of every small tree.
func TestSmallTrees(t *testing.T) {
	m := newModel()
	all := append(smallTrees(2, none(), empty(), letter('a'), set('0', '9', 'a', 'z'), at(1), at(2), at(4), at(8), at(16), at(32)), smallTrees(3, none(), letter('a'), at(1))...)
	for _, tree := range all {
		holds(t, m, fromOne(tree))
		if t.Failed() {
			return
		}
	}
}

// TestMoreTrees: all promises of deeper trees, made of small ones by turns.
func TestMoreTrees(t *testing.T) {
	m := newModel()
	small := smallTrees(2, none(), empty(), letter('a'), set('b', 'c'), at(1), at(8))
	for i := range 4000 {
		pick := func(n int) api.Tree { return small[(i*n+n)%len(small)] }
		tree := cat(pick(7), grp(0, "x", alt(pick(31), star(cat(pick(3), grp(0, "", pick(101)), pick(59))))), quest(pick(13)), repeat(i%3, 3, grp(0, "x", cat(pick(17), pick(1), pick(211)))))
		holds(t, m, fromOne(tree))
		if t.Failed() {
			return
		}
	}
}

// TestMisnumbered: small trees whose groups are numbered from another number on, or whose names are all the same: shaped, and right only where that is nothing.
func TestMisnumbered(t *testing.T) {
	m := newModel()
	for _, tree := range smallTrees(3, letter('a')) {
		for _, from := range []int{0, 2, -1, math.MaxInt} {
			next := from
			holds(t, m, numbered(tree, &next))
		}
		holds(t, m, tree)
		if t.Failed() {
			return
		}
	}
}
