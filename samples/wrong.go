package samples

import (
	"math"
	"slices"
	"strings"

	"martello/api"
)

// Misshapen are trees that are not shaped, each for one thing, alone and in others.
func Misshapen() []api.Tree {
	a, all := Letter('a'), []api.Tree{}
	for _, bad := range slices.Concat(wrongParts(), wrongNames(), otherFields()) {
		all = append(all, bad, Star(bad), Plus(bad), Lazy(Quest(bad)), Repeat(0, 0, bad), Repeat(2, 3, bad), Group(1, "", bad), Group(1, "x", bad), Cat(bad), Cat(a, bad), Cat(bad, a), Cat(a, bad, a), Alt(bad), Alt(a, bad), Alt(bad, a), Cat(Alt(Cat(bad))), Star(Cat(a, Alt(a, Plus(Group(1, "", bad))))))
	}
	return all
}

// Misnumbered are trees that are shaped, but with groups that are not numbered as they begin, or have a name twice.
func Misnumbered() []api.Tree {
	a, all := Letter('a'), []api.Tree{}
	for _, bad := range []api.Tree{
		Group(2, "", a), Group(math.MaxInt, "x", a),
		Cat(Group(2, "", a), Group(1, "", a)), Cat(Group(1, "", a), Group(1, "", a)), Cat(Group(1, "", a), Group(3, "", a)), Group(2, "", Group(1, "", a)), Group(1, "", Group(1, "", a)), Alt(Group(1, "", Group(3, "", a)), Group(2, "", a)), Star(Cat(Group(1, "", a), Alt(a, Group(3, "", a)))),
		Cat(Group(1, "x", a), Group(2, "x", a)), Group(1, "x", Group(2, "x", a)), Alt(Group(1, "x", a), Group(2, "y", a), Star(Group(3, "x", a))),
	} {
		all = append(all, bad, Cat(bad, a), Plus(Alt(a, bad)))
	}
	return all
}

// wrongParts are trees with a Rune, a Set, a count, Kids or the like that their Op may not have.
func wrongParts() []api.Tree {
	a, b := Letter('a'), Letter('b')
	return []api.Tree{
		{}, {Op: -1}, {Op: 13}, {Op: math.MinInt}, {Op: math.MaxInt}, {Op: 13, Kids: []api.Tree{a}}, {Op: 0, Kids: []api.Tree{a}}, {Op: 16, Rune: 'a'}, // no Op
		Of(api.OpNone, a), Of(api.OpEmpty, a), {Op: api.OpRune, Rune: 'a', Kids: []api.Tree{b}}, {Op: api.OpSet, Set: Ranges(1, 2), Kids: []api.Tree{a}}, {Op: api.OpAt, At: 1, Kids: []api.Tree{a}}, // a Kid too many
		Of(api.OpStar, a, b), Of(api.OpPlus, a, b), Of(api.OpQuest, a, b), {Op: api.OpRepeat, Max: 1, Kids: []api.Tree{a, b}}, {Op: api.OpCap, Cap: 1, Kids: []api.Tree{a, a}},
		Of(api.OpStar), Of(api.OpPlus), Of(api.OpQuest), {Op: api.OpRepeat, Max: 1}, {Op: api.OpCap, Cap: 1}, Alt(), {Op: api.OpAlt, Kids: []api.Tree{}}, // a Kid too few
		Letter(-1), Letter(0x110000), Letter(math.MinInt32), Letter(math.MaxInt32), // no rune
		Set(), {Op: api.OpSet, Set: []api.Range{}}, Set(5, 4), Set(1, 2, 3, 4), Set(1, 5, 5, 9), Set(7, 9, 1, 5), Set(-1, 5), Set(5, 0x110000), // no set, or one without a range
		At(0), At(3), At(5), At(12), At(48), At(63), At(64), At(-1), At(math.MinInt), At(math.MaxInt), // none of the six
		Repeat(-1, 5, a), Repeat(-1, -1, a), Repeat(1001, -1, a), Repeat(1001, 1001, a), Repeat(1000, 1001, a), Repeat(0, 1001, a), Repeat(0, -2, a), Repeat(2, 1, a), Repeat(1000, 999, a), Repeat(2, 0, a), Repeat(math.MinInt, 0, a), Repeat(0, math.MinInt, a), Repeat(math.MaxInt, -1, a), Repeat(math.MaxInt, math.MaxInt, a), // no count
	}
}

// wrongNames are groups whose number or name is none.
func wrongNames() []api.Tree {
	a := Letter('a')
	all := []api.Tree{Group(0, "", a), Group(-1, "", a), Group(math.MinInt, "", a), Group(0, "x", a)}
	for _, name := range []string{"9", "0x", " ", "x ", " x", "a-b", "a.b", "é", "xé", "x\x00", "\x00", "\xff", "x\xff", "x>", ">", "<", "@", "[", "`", "{", "a/", "a:", strings.Repeat("n", 33), strings.Repeat("n", 70000)} {
		all = append(all, Group(1, name, a))
	}
	return all
}

// otherFields are trees with a field that their Op has not.
func otherFields() []api.Tree {
	var all []api.Tree
	a := Letter('a')
	for _, tree := range []api.Tree{None(), Empty(), a, Set('a', 'b'), At(1), Group(1, "x", a), Star(a), Plus(a), Quest(a), Repeat(1, 2, a), Cat(), Cat(a), Cat(a, a), Alt(a), Alt(a, a)} {
		for _, field := range []struct {
			ops  []api.Op
			fill func(*api.Tree)
		}{
			{[]api.Op{api.OpRune}, func(t *api.Tree) { t.Rune = 'b' }},
			{[]api.Op{api.OpSet}, func(t *api.Tree) { t.Set = Ranges('c', 'd') }},
			{[]api.Op{api.OpAt}, func(t *api.Tree) { t.At = api.AtEnd }},
			{[]api.Op{api.OpCap}, func(t *api.Tree) { t.Cap = 1 }},
			{[]api.Op{api.OpCap}, func(t *api.Tree) { t.Name = "y" }},
			{[]api.Op{api.OpRepeat}, func(t *api.Tree) { t.Min = 1 }},
			{[]api.Op{api.OpRepeat}, func(t *api.Tree) { t.Max = 1 }},
			{[]api.Op{api.OpStar, api.OpPlus, api.OpQuest, api.OpRepeat}, func(t *api.Tree) { t.Lazy = true }},
		} {
			if !slices.Contains(field.ops, tree.Op) {
				bad := tree
				field.fill(&bad)
				all = append(all, bad)
			}
		}
	}
	return all
}

// TooGreat are trees that would be right, were they not too deep, or too heavy.
func TooGreat() []api.Tree {
	a := Letter('a')
	all := []api.Tree{Cat(slices.Repeat([]api.Tree{a}, 4000)...), Alt(slices.Repeat([]api.Tree{Empty()}, 2001)...), Star(Cat(slices.Repeat([]api.Tree{a}, 3999)...)), Repeat(1000, 1000, Cat(a, a)), Cat(slices.Repeat([]api.Tree{a}, 100000)...)}
	for _, depth := range []int{51, 1000, 4000, 1 << 16} {
		all = append(all, Nested(depth-1, a, Star))
	}
	return append(all, Numbered(Nested(50, a, func(kid api.Tree) api.Tree { return Group(0, "", kid) })))
}

// TooMany are trees with more parts than could be gone through, as they share them.
func TooMany() []api.Tree {
	var all []api.Tree
	for _, deep := range []int{12, 40, 70} {
		for _, in := range []func(api.Tree) api.Tree{
			func(kid api.Tree) api.Tree { return Cat(kid, kid) },
			func(kid api.Tree) api.Tree { return Alt(kid, kid) },
			func(kid api.Tree) api.Tree { return Repeat(1000, 1000, kid) },
			func(kid api.Tree) api.Tree { return Star(Cat(kid, kid, kid)) },
			func(kid api.Tree) api.Tree { return Of(api.OpStar, kid, kid) },
		} {
			all = append(all, Nested(deep, Letter('a'), in))
		}
	}
	return all
}
