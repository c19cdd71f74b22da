package trees_test

import (
	"math"
	"slices"
	"strings"
	"testing"

	"martello/api"
	. "martello/samples"
	"martello/trees"
)

// The calls of the chapter, by their signatures.
var (
	_ func(api.Tree) bool     = trees.Right
	_ func(api.Tree) int      = trees.Depth
	_ func(api.Tree) int      = trees.Weight
	_ func(api.Tree) []string = trees.Caps
	_ func(api.Tree) bool     = trees.Empty
	_ func(api.Tree) bool     = trees.Still
	_ func(api.Tree) api.Tree = trees.Turned
	_ func(api.Tree) bool     = trees.Shaped
)

// tells holds Right and Shaped of a tree against what they must be, and, of one that is not right, that nothing else is told of it.
func tells(t *testing.T, tree api.Tree, right, shaped bool) {
	t.Helper()
	if r := trees.Right(tree); r != right {
		t.Errorf("%s: Right %v", show(tree), r)
	}
	if s := trees.Shaped(tree); s != shaped {
		t.Errorf("%s: Shaped %v", show(tree), s)
	}
	if !right {
		nothing(t, tree)
	}
}

// nothing holds that of a tree that is not right there are no Caps, that it is not Empty and not Still, and that turned it is a zero tree.
func nothing(t *testing.T, tree api.Tree) {
	t.Helper()
	if c := trees.Caps(tree); len(c) != 0 {
		t.Errorf("%s: Caps %q", show(tree), c)
	}
	if trees.Empty(tree) || trees.Still(tree) {
		t.Errorf("%s: Empty, or Still", show(tree))
	}
	if u := trees.Turned(tree); !Same(u, api.Tree{}) {
		t.Errorf("%s: turned %s", show(tree), show(u))
	}
}

// TestExamples: the chapter's table.
func TestExamples(t *testing.T) {
	x := Cat(Group(1, "x", Letter('b')), Star(Letter('a')))
	if d, w, c := trees.Depth(x), trees.Weight(x), trees.Caps(x); d != 3 || w != 6 || !slices.Equal(c, []string{"", "x"}) {
		t.Error(d, w, c)
	}
	if w := trees.Weight(Repeat(2, 3, Letter('a'))); w != 7 {
		t.Error(w)
	}
}

// TestRight: a right tree of each Op, and both ends of what each field may be.
func TestRight(t *testing.T) {
	all := append(eachOp(),
		Letter(0), Letter(0x10ffff), Letter(0xd800), Set(0, 0), Set(0, 0x10ffff), Set(0x10ffff, 0x10ffff), Set(5, 5, 7, 7),
		At(api.AtBegin), At(api.AtEnd), At(api.AtBeginLine), At(api.AtEndLine), At(api.AtNoWord),
		Repeat(0, 0, Letter('a')), Repeat(0, 1000, Letter('a')), Repeat(1000, 1000, Letter('a')), Repeat(1000, -1, Letter('a')), Repeat(3, 3, Letter('a')), Lazy(Star(None())), Lazy(Plus(Letter('a'))),
		Cat(Cat(Cat()), Alt(Alt(Empty()))), letters(1000), Alt(slices.Repeat([]api.Tree{None()}, 1000)...),
		api.Tree{Op: api.OpCat, Kids: []api.Tree{}, Set: []api.Range{}}, api.Tree{Op: api.OpRune, Rune: 'a', Kids: []api.Tree{}, Set: []api.Range{}},
	)
	for _, name := range rightNames() {
		all = append(all, Group(1, name, Letter('a')))
	}
	for _, tree := range all {
		tells(t, tree, true, true)
		tells(t, Cat(Empty(), tree), true, true)
	}
}

// TestNotRight: one thing wrong each, which makes no shape of it either: alone, and as a Kid.
func TestNotRight(t *testing.T) {
	a, b := Letter('a'), Letter('b')
	all := []api.Tree{
		{}, {Op: -1}, {Op: 13}, {Op: math.MinInt}, {Op: math.MaxInt}, {Op: 13, Kids: []api.Tree{a}}, {Op: 0, Kids: []api.Tree{a}}, // no Op
		Of(api.OpNone, a), Of(api.OpEmpty, a), {Op: api.OpRune, Rune: 'a', Kids: []api.Tree{b}}, {Op: api.OpSet, Set: Ranges(1, 2), Kids: []api.Tree{a}}, {Op: api.OpAt, At: 1, Kids: []api.Tree{a}}, // a Kid too many
		{Op: api.OpCap, Cap: 1, Kids: []api.Tree{a, b}}, Of(api.OpStar, a, b), Of(api.OpPlus, a, b), Of(api.OpQuest, a, b), {Op: api.OpRepeat, Max: 1, Kids: []api.Tree{a, b}},
		{Op: api.OpCap, Cap: 1}, Of(api.OpStar), Of(api.OpPlus), Of(api.OpQuest), {Op: api.OpRepeat, Max: 1}, Alt(), {Op: api.OpAlt, Kids: []api.Tree{}}, // a Kid too few
		Letter(-1), Letter(0x110000), Letter(math.MinInt32), Letter(math.MaxInt32), // no rune
		Set(), {Op: api.OpSet, Set: []api.Range{}}, Set(5, 4), Set(1, 2, 3, 4), Set(1, 5, 5, 9), Set(7, 9, 1, 5), Set(-1, 5), Set(5, 0x110000), // no set, or an empty one
		At(0), At(3), At(5), At(12), At(48), At(63), At(64), At(-1), At(math.MinInt), At(math.MaxInt), // none of the six
		Group(0, "", a), Group(-1, "", a), Group(math.MinInt, "", a), // no number of a group
		Repeat(-1, 5, a), Repeat(-1, -1, a), Repeat(1001, -1, a), Repeat(1001, 1001, a), Repeat(1000, 1001, a), Repeat(0, 1001, a), Repeat(0, -2, a), Repeat(2, 1, a), Repeat(1000, 999, a), Repeat(2, 0, a), Repeat(math.MinInt, 0, a), Repeat(0, math.MinInt, a), Repeat(math.MaxInt, -1, a), Repeat(0, math.MaxInt, a), Repeat(math.MaxInt, math.MaxInt, a),
	}
	for _, name := range wrongNames() {
		all = append(all, Group(1, name, a))
	}
	for _, tree := range all {
		tells(t, tree, false, false)
		for _, of := range []api.Tree{Star(tree), Cat(tree), Cat(a, tree), Alt(tree, a), Cat(Star(Alt(b, tree)), b), Repeat(0, 0, tree), Group(1, "", Plus(tree))} {
			if tree.Op == api.OpCap && of.Op == api.OpCap {
				continue // the number would be wrong, too
			}
			tells(t, of, false, false)
		}
	}
}

// TestOtherFields: each field that an Op has not, and is not zero.
func TestOtherFields(t *testing.T) {
	all := rules()
	for _, tree := range eachOp() {
		for field, c := range map[string]change{
			"Rune": func(t *api.Tree) { t.Rune = 'a' },
			"Set":  func(t *api.Tree) { t.Set = Ranges('a', 'b') },
			"At":   func(t *api.Tree) { t.At = api.AtBegin },
			"Cap":  func(t *api.Tree) { t.Cap = 1 },
			"Name": func(t *api.Tree) { t.Name = "name" },
			"Min":  func(t *api.Tree) { t.Min = 1 },
			"Max":  func(t *api.Tree) { t.Max = 1 },
			"Lazy": func(t *api.Tree) { t.Lazy = true },
		} {
			if !all[tree.Op].may(field) {
				changed := copied(tree)
				c(&changed)
				tells(t, changed, false, false)
			}
		}
	}
}

// TestChanged: all of T1 to T4 of a tree of each Op, and of Ops that there are not, with two things changed, as the model has it.
func TestChanged(t *testing.T) {
	m := newModel()
	all := append(eachOp(), api.Tree{}, api.Tree{Op: -1}, api.Tree{Op: 13}, api.Tree{Op: 15, Kids: []api.Tree{Letter('a')}})
	for _, tree := range all {
		for i, c := range changes() {
			for _, d := range changes()[i:] {
				changed := copied(tree)
				c(&changed)
				d(&changed)
				holds(t, m, changed)
			}
		}
		if t.Failed() {
			return
		}
	}
}

// TestGroups: numbers that are not those in which groups begin, and names that stand twice: shaped, and not right.
func TestGroups(t *testing.T) {
	a := Letter('a')
	for _, tree := range []api.Tree{
		Group(1, "", a), Group(1, "x", Group(2, "y", Group(3, "z", a))), Cat(Group(1, "x", a), Group(2, "X", a)), Cat(Group(1, "", a), Group(2, "", a), Group(3, "", a)),
		Cat(Star(Group(1, "", Alt(Group(2, "", a), Group(3, "", a)))), Group(4, "", a)), Alt(Group(1, "x", a), Cat(a, Group(2, "x1", a))),
	} {
		tells(t, tree, true, true)
	}
	for _, tree := range []api.Tree{
		Group(2, "", a), Group(math.MaxInt, "x", a), Cat(Group(2, "", a), Group(1, "", a)), Cat(Group(1, "", a), Group(1, "", a)), Cat(Group(1, "", a), Group(3, "", a)), Cat(Group(1, "", a), Group(2, "", a), Group(2, "", a)),
		Group(2, "", Group(1, "", a)), Group(1, "", Group(1, "", a)), Group(1, "", Group(3, "", a)), Cat(Group(1, "", a), Group(3, "", Group(2, "", a))), Cat(Star(Group(1, "", Alt(Group(3, "", a), Group(4, "", a)))), Group(2, "", a)), Cat(Group(1, "", Cat()), a, Group(2, "", a), Plus(Group(1, "", a))),
	} {
		tells(t, tree, false, true)
	}
	for _, tree := range []api.Tree{
		Cat(Group(1, "x", a), Group(2, "x", a)), Group(1, "x", Group(2, "x", a)), Alt(Group(1, "x", a), Group(2, "y", a), Star(Group(3, "x", a))), Cat(Group(1, "x", Group(2, "", a)), Group(3, "", Group(4, "x", a))),
	} {
		tells(t, tree, false, true)
	}
}

// TestDepth: of each Op, of what is none, and at the edge.
func TestDepth(t *testing.T) {
	for _, x := range []struct {
		t    api.Tree
		want int
	}{
		{api.Tree{}, 1}, {api.Tree{Op: 13}, 1}, {None(), 1}, {Empty(), 1}, {Letter('a'), 1}, {Set(1, 2), 1}, {At(1), 1}, {Cat(), 1}, {Alt(), 1}, {Of(api.OpStar), 1},
		{Group(1, "", Empty()), 2}, {Star(Empty()), 2}, {Plus(Empty()), 2}, {Quest(Empty()), 2}, {Repeat(0, 0, Empty()), 2}, {Repeat(1000, 1000, Empty()), 2}, {Cat(Empty()), 2}, {Alt(Empty()), 2},
		{Cat(Empty(), Star(Star(Empty())), Star(Empty())), 4}, {Alt(Star(Star(Star(Empty()))), Empty()), 5}, {Cat(Empty(), Empty(), Quest(Empty())), 3},
		{Of(13, Letter('a')), 2}, {Of(api.OpRune, Star(Letter('a'))), 3}, {Of(0, Of(-5, api.Tree{})), 3},
		{chain(49), 49}, {chain(50), 50}, {chain(51), 51}, {chain(1 << 16), 1 << 16}, {shared(12, Cat), 12},
	} {
		if d := trees.Depth(x.t); d != x.want {
			t.Errorf("%s: Depth %d; not %d", show(x.t), d, x.want)
		}
	}
	tells(t, chain(49), true, true)
	tells(t, chain(50), true, true)
	tells(t, Cat(Empty(), chain(49), Empty()), true, true)
	for _, tree := range []api.Tree{chain(51), chain(52), Cat(Empty(), chain(50), Empty()), Alt(chain(50)), Repeat(0, 0, chain(50)), Group(1, "", chain(50)), chain(4000), chain(4001), chain(1 << 16)} {
		tells(t, tree, false, true)
	}
}

// TestWeight: of each Op, and of what is none.
func TestWeight(t *testing.T) {
	a, aa := Letter('a'), Cat(Letter('a'), Letter('a')) // 1, 3
	for _, x := range []struct {
		t    api.Tree
		want int
	}{
		{None(), 1}, {Empty(), 1}, {a, 1}, {Set(1, 2, 4, 5), 1}, {At(1), 1}, {Cat(), 1}, {aa, 3}, {Cat(aa, aa, a), 8}, {Alt(a), 2}, {Alt(a, aa), 6}, {Alt(a, a, a), 6},
		{Group(1, "", a), 3}, {Group(1, "name", aa), 5}, {Group(1, "", Group(2, "", a)), 5}, {Star(aa), 4}, {Lazy(Plus(aa)), 4}, {Quest(aa), 4}, {Star(Plus(Quest(a))), 4},
		{Repeat(0, 0, aa), 5}, {Repeat(0, 1, aa), 5}, {Repeat(1, -1, aa), 5}, {Repeat(0, -1, aa), 5}, {Repeat(3, -1, aa), 13}, {Repeat(2, 3, aa), 13}, {Repeat(3, 3, aa), 13}, {Repeat(0, 3, aa), 13}, {Repeat(5, 5, Repeat(2, 3, a)), 41},
		{api.Tree{}, 1}, {api.Tree{Op: 13}, 1}, {Of(13, aa, aa), 1}, {Of(-1, aa), 1}, {Of(0, aa), 1}, {Of(api.OpRune, aa), 1}, {Of(api.OpNone, aa, aa), 1}, {Of(api.OpAt, aa), 1}, {Of(api.OpEmpty, aa), 1}, {Of(api.OpSet, aa), 1},
		{Alt(), 0}, {Alt(Alt()), 1}, {Cat(Alt(), Alt()), 1}, {Of(api.OpCap), 2}, {Of(api.OpCap, aa, aa), 8}, {Of(api.OpStar), 1}, {Of(api.OpPlus, a, aa), 5}, {Of(api.OpQuest, aa, aa), 7},
		{Of(api.OpRepeat), 2}, {api.Tree{Op: api.OpRepeat, Min: 9}, 10}, {Repeat(-5, -9, aa), 5}, {Repeat(7, 2, a), 15}, {Repeat(2, 1, Alt()), 3}, {api.Tree{Op: api.OpRepeat, Min: 2, Kids: []api.Tree{aa, a}}, 11},
	} {
		if w := trees.Weight(x.t); w != x.want {
			t.Errorf("%s: Weight %d; not %d", show(x.t), w, x.want)
		}
	}
}

// TestWeightEdge: trees of 4000, and of 4001, of each Op that has Kids.
func TestWeightEdge(t *testing.T) {
	full := []api.Tree{
		letters(3999), Star(letters(3998)), Plus(letters(3998)), Quest(letters(3998)), Group(1, "", letters(3997)), Alt(letters(3998)), Alt(slices.Repeat([]api.Tree{Empty()}, 2000)...),
		Repeat(1, 1, letters(3997)), Repeat(0, 0, letters(3997)), Repeat(0, -1, letters(3997)), Cat(Repeat(999, 999, letters(2)), Empty(), Empty()), Cat(Repeat(0, 1000, Star(Letter('a'))), letters(997)),
	}
	for _, tree := range full {
		if w := trees.Weight(tree); w != 4000 {
			t.Errorf("%s: Weight %d", show(tree), w)
		}
		tells(t, tree, true, true)
		for _, over := range []api.Tree{Star(tree), Cat(tree), Cat(tree, Empty()), Quest(tree), Alt(tree), Alt(tree, tree), Repeat(0, 0, tree), Repeat(2, -1, tree), Group(0, "", tree), Cat(Empty(), tree, tree)} {
			over = fromOne(over)
			if w := trees.Weight(over); w != 4001 {
				t.Errorf("%s: Weight %d", show(over), w)
			}
			tells(t, over, false, true)
		}
	}
	for _, over := range []api.Tree{letters(4000), Repeat(1000, 1000, letters(2)), Repeat(0, 1000, letters(2)), Repeat(1000, -1, letters(2)), letters(100000), Alt(slices.Repeat([]api.Tree{Empty()}, 2001)...)} {
		if w := trees.Weight(over); w != 4001 {
			t.Errorf("%s: Weight %d", show(over), w)
		}
		tells(t, over, false, true)
	}
}

// TestWeightGreat: what would pass an int, by products, by numbers that no count has, and by parts that are shared: it ends, and weighs 4001.
func TestWeightGreat(t *testing.T) {
	product := Letter('a')
	for range 40 {
		product = Repeat(1000, 1000, product)
	}
	tells(t, product, false, true)
	aa := letters(2)
	for _, tree := range []api.Tree{
		product, Repeat(0, math.MaxInt, Letter('a')), Repeat(math.MaxInt, 0, aa), Repeat(math.MaxInt, math.MaxInt, Alt()), Repeat(math.MaxInt, math.MaxInt, Repeat(math.MaxInt, math.MaxInt, aa)), Repeat(math.MaxInt/2, 0, aa), Repeat(math.MaxInt32, 0, aa), Repeat(1<<62, -1, letters(4)), Repeat(4000, 0, Alt()),
		shared(70, Cat), shared(70, Alt), shared(70, func(k ...api.Tree) api.Tree { return Of(api.OpPlus, k...) }), shared(70, func(k ...api.Tree) api.Tree { return Of(api.OpCap, k...) }), shared(70, func(k ...api.Tree) api.Tree { return Of(api.OpRepeat, k...) }),
	} {
		if w := trees.Weight(tree); w != 4001 {
			t.Errorf("%s: Weight %d", show(tree), w)
		}
		if trees.Right(tree) {
			t.Errorf("%s: right", show(tree))
		}
		nothing(t, tree)
	}
	if w := trees.Weight(Repeat(3999, 0, Alt())); w != 4000 {
		t.Error(w)
	}
	// What is no tree weighs little, however much it has: it ends all the same.
	if tree := (api.Tree{Op: api.OpRune, Rune: 'a', Kids: []api.Tree{shared(70, Cat)}}); trees.Weight(tree) != 1 || trees.Right(tree) || trees.Shaped(tree) {
		t.Error("a rune of many Kids")
	}
}

// TestCaps: the whole, and names by numbers; new each time.
func TestCaps(t *testing.T) {
	a := Letter('a')
	for _, x := range []struct {
		t    api.Tree
		want string
	}{
		{None(), ""}, {a, ""}, {Cat(), ""}, {Group(1, "", a), ","}, {Group(1, "x", a), ",x"}, {Star(Group(1, "x", a)), ",x"}, {Plus(Group(1, "x", a)), ",x"}, {Quest(Group(1, "x", a)), ",x"}, {Repeat(5, 9, Group(1, "x", a)), ",x"}, {Repeat(0, 0, Group(1, "x", a)), ",x"},
		{Group(1, "out", Cat(Group(2, "in", a), Group(3, "", a))), ",out,in,"}, {Alt(Group(1, "z", a), Group(2, "", Group(3, "a", a)), Group(4, "m", a)), ",z,,a,m"}, {Cat(Group(1, "", a), Star(Group(2, "", Group(3, "", a))), Group(4, "b", a)), ",,,,b"},
	} {
		if c := strings.Join(trees.Caps(x.t), ","); c != x.want || len(trees.Caps(x.t)) != strings.Count(x.want, ",")+1 {
			t.Errorf("%s: Caps %q; not %q", show(x.t), c, x.want)
		}
	}
}

// TestEmpty: Empty and Still of each Op, written out.
func TestEmpty(t *testing.T) {
	a, e, n := Letter('a'), Empty(), None()
	for _, x := range []struct {
		t            api.Tree
		empty, still bool
	}{
		{n, false, true}, {e, true, true}, {a, false, false}, {Set(1, 2), false, false}, {At(1), true, true}, {At(32), true, true},
		{Star(a), true, false}, {Star(e), true, true}, {Star(n), true, true}, {Lazy(Star(a)), true, false}, {Quest(a), true, false}, {Quest(At(2)), true, true}, {Quest(n), true, true},
		{Group(1, "", a), false, false}, {Group(1, "x", e), true, true}, {Group(1, "", n), false, true}, {Plus(a), false, false}, {Plus(e), true, true}, {Plus(n), false, true}, {Plus(Star(a)), true, false},
		{Repeat(0, 5, a), true, false}, {Repeat(0, 0, a), true, false}, {Repeat(0, -1, n), true, true}, {Repeat(1, 1, a), false, false}, {Repeat(2, -1, e), true, true}, {Repeat(3, 4, Quest(a)), true, false}, {Repeat(1, 2, n), false, true},
		{Cat(), true, true}, {Cat(e, At(4)), true, true}, {Cat(a), false, false}, {Cat(Star(a), Quest(a)), true, false}, {Cat(Star(a), a), false, false}, {Cat(a, e), false, false}, {Cat(e, n), false, true}, {Cat(e, Star(e)), true, true}, {Cat(n, a), false, false},
		{Alt(a), false, false}, {Alt(e), true, true}, {Alt(a, e), true, false}, {Alt(e, a), true, false}, {Alt(a, a, At(16)), true, false}, {Alt(n, n), false, true}, {Alt(n, e), true, true}, {Alt(n, a), false, false}, {Alt(a, Cat(e, a)), false, false},
		{Cat(Group(1, "", Alt(a, Cat())), Plus(Group(2, "", At(8)))), true, false}, {Star(Cat(e, Plus(Alt(n, Repeat(2, 2, At(1)))))), true, true}, {Star(Cat(e, Plus(Alt(n, Repeat(2, 2, Set(5, 5)))))), true, false},
	} {
		if trees.Empty(x.t) != x.empty || trees.Still(x.t) != x.still {
			t.Errorf("%s: Empty %v, Still %v", show(x.t), trees.Empty(x.t), trees.Still(x.t))
		}
		tells(t, x.t, true, true)
	}
}

// TestTurned: of each Op, written out.
func TestTurned(t *testing.T) {
	a, b, c := Letter('a'), Letter('b'), Letter('c')
	for _, x := range []struct{ t, want api.Tree }{
		{None(), None()}, {Empty(), Empty()}, {a, a}, {Set(1, 2, 4, 5), Set(1, 2, 4, 5)},
		{At(api.AtBegin), At(api.AtEnd)}, {At(api.AtEnd), At(api.AtBegin)}, {At(api.AtBeginLine), At(api.AtEndLine)}, {At(api.AtEndLine), At(api.AtBeginLine)}, {At(api.AtWord), At(api.AtWord)}, {At(api.AtNoWord), At(api.AtNoWord)},
		{Group(1, "x", a), a}, {Group(1, "", Group(2, "", Cat(a, b))), Cat(b, a)}, {Star(Group(1, "", a)), Star(a)},
		{Star(Cat(a, b)), Star(Cat(b, a))}, {Lazy(Star(Cat(a, b))), Lazy(Star(Cat(b, a)))}, {Plus(Cat(a, b)), Plus(Cat(b, a))}, {Lazy(Plus(At(1))), Lazy(Plus(At(2)))}, {Quest(Cat(a, b)), Quest(Cat(b, a))}, {Lazy(Quest(a)), Lazy(Quest(a))}, {Repeat(2, 3, Cat(a, b)), Repeat(2, 3, Cat(b, a))}, {Lazy(Repeat(1, -1, Group(1, "", a))), Lazy(Repeat(1, -1, a))},
		{Cat(), Cat()}, {Cat(a), Cat(a)}, {Cat(a, b, c), Cat(c, b, a)}, {Cat(a, Cat(b, c), At(2)), Cat(At(1), Cat(c, b), a)}, {Cat(Group(1, "", Cat(a, b)), c), Cat(c, Cat(b, a))}, {Cat(At(4), Star(a), At(8)), Cat(At(4), Star(a), At(8))},
		{Alt(a, b), Alt(a, b)}, {Alt(Cat(a, b), Group(1, "x", c), At(4)), Alt(Cat(b, a), c, At(8))},
	} {
		if u := trees.Turned(x.t); !Same(u, x.want) {
			t.Errorf("%s: turned %s; not %s", show(x.t), show(u), show(x.want))
		}
	}
}

// holds holds all that is told of a tree against the model, and P5.2, P5.3 of a right one; the tree stays as it was.
func holds(t *testing.T, m model, tree api.Tree) {
	t.Helper()
	before := copied(tree)
	right := len(m.wrong(tree)) == 0
	tells(t, tree, right, len(m.misshapen(tree)) == 0)
	if d, w := trees.Depth(tree), trees.Weight(tree); d != m.depth(tree) || w != m.weight(tree) {
		t.Errorf("%s: Depth %d, Weight %d; not %d, %d", show(tree), d, w, m.depth(tree), m.weight(tree))
	}
	if right {
		holdsRight(t, m, tree)
		holdsTurned(t, m, tree)
	}
	if !Same(tree, before) {
		t.Errorf("%s: was %s", show(tree), show(before))
	}
}

// holdsRight: T2 and P5.3, and of P5.2 the Kids.
func holdsRight(t *testing.T, m model, tree api.Tree) {
	t.Helper()
	names := []string{""}
	for _, g := range m.groups(tree) {
		names = append(names, g.Name)
	}
	if c := trees.Caps(tree); !slices.Equal(c, names) {
		t.Errorf("%s: Caps %q; not %q", show(tree), c, names)
	}
	empty, still := trees.Empty(tree), trees.Still(tree)
	if empty != (m.least(tree) == 0) || still != m.still(tree) {
		t.Errorf("%s: Empty %v, Still %v", show(tree), empty, still)
	}
	if still && !empty && !m.has(tree, "None") {
		t.Errorf("%s: Still, and not Empty", show(tree))
	}
	for _, kid := range tree.Kids {
		if !trees.Shaped(kid) || !trees.Right(fromOne(kid)) {
			t.Errorf("%s: its Kid %s is not right", show(tree), show(kid))
		}
	}
}

// holdsTurned: T3, and of P5.2 what is turned twice; a turned tree is right, and may fit nothing, or never fits more, just where the tree does.
func holdsTurned(t *testing.T, m model, tree api.Tree) {
	t.Helper()
	u := trees.Turned(tree)
	if want := m.ungrouped(tree, true); !Same(u, want) {
		t.Errorf("%s: turned %s; not %s", show(tree), show(u), show(want))
	}
	if v, want := trees.Turned(u), m.ungrouped(tree, false); !Same(v, want) {
		t.Errorf("%s: turned twice %s; not %s", show(tree), show(v), show(want))
	}
	if !trees.Right(u) || len(trees.Caps(u)) != 1 || trees.Empty(u) != trees.Empty(tree) || trees.Still(u) != trees.Still(tree) {
		t.Errorf("%s: turned %s: Right %v, Empty %v, Still %v", show(tree), show(u), trees.Right(u), trees.Empty(u), trees.Still(u))
	}
}

// TestSmallTrees: all promises of every small tree.
func TestSmallTrees(t *testing.T) {
	m := newModel()
	all := append(smallTrees(2, None(), Empty(), Letter('a'), Set('0', '9', 'a', 'z'), At(1), At(2), At(4), At(8), At(16), At(32)), smallTrees(3, None(), Letter('a'), At(1))...)
	for _, tree := range all {
		holds(t, m, fromOne(tree))
		if t.Failed() {
			return
		}
	}
}

// TestMoreTrees: all promises of deeper trees, made of small ones by turns.
func TestMoreTrees(t *testing.T) {
	m := newModel()
	small := smallTrees(2, None(), Empty(), Letter('a'), Set('b', 'c'), At(1), At(8))
	for i := range 4000 {
		pick := func(n int) api.Tree { return small[(i*n+n)%len(small)] }
		tree := Cat(pick(7), Group(0, "x", Alt(pick(31), Star(Cat(pick(3), Group(0, "", pick(101)), pick(59))))), Quest(pick(13)), Repeat(i%3, 3, Group(0, "x", Cat(pick(17), pick(1), pick(211)))))
		holds(t, m, fromOne(tree))
		if t.Failed() {
			return
		}
	}
}

// TestMisnumbered: small trees whose groups are numbered from another number on, or whose names are all the same: shaped, and right only where that is nothing.
func TestMisnumbered(t *testing.T) {
	m := newModel()
	for _, tree := range smallTrees(3, Letter('a')) {
		for _, from := range []int{0, 2, -1, math.MaxInt} {
			next := from
			holds(t, m, renumbered(tree, &next))
		}
		holds(t, m, tree)
		if t.Failed() {
			return
		}
	}
}
