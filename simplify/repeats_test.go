package simplify_test

import (
	"slices"
	"testing"

	"martello/api"
	. "martello/samples"
)

// TestCounts: each kind of a count, lazy and not, of a Kid that moves.
func TestCounts(t *testing.T) {
	a := Letter('a')
	for _, slow := range []bool{false, true} {
		with := func(tree api.Tree) api.Tree { tree.Lazy = slow; return tree }
		q := func(kid api.Tree) api.Tree { return with(Quest(kid)) }
		for _, x := range []struct {
			least, most int
			want        api.Tree
		}{
			{0, 0, Empty()}, {1, 1, a}, {2, 2, Cat(a, a)}, {5, 5, Cat(a, a, a, a, a)},
			{0, -1, with(Star(a))}, {1, -1, with(Plus(a))}, {2, -1, Cat(a, with(Plus(a)))}, {4, -1, Cat(a, a, a, with(Plus(a)))},
			{0, 1, q(a)}, {1, 2, Cat(a, q(a))}, {2, 3, Cat(a, a, q(a))}, {0, 2, q(Cat(a, q(a)))}, {1, 3, Cat(a, q(Cat(a, q(a))))}, {2, 4, Cat(a, a, q(Cat(a, q(a))))}, {0, 3, q(Cat(a, q(Cat(a, q(a)))))}, {3, 6, Cat(a, a, a, q(Cat(a, q(Cat(a, q(a))))))},
		} {
			simple(t, with(Repeat(x.least, x.most, a)), x.want)
			simple(t, Group(1, "", with(Repeat(x.least, x.most, a))), Group(1, "", x.want))
		}
	}
}

// TestCountsOfNothing: repeats of None and of Empty.
func TestCountsOfNothing(t *testing.T) {
	for _, c := range Counts() {
		for _, kid := range []api.Tree{None(), Cat(None()), Alt(None(), None()), Group(1, "", None()), Cat(Letter('a'), None())} {
			want := None()
			if c[0] == 0 {
				want = Empty()
			}
			simple(t, Repeat(c[0], c[1], kid), want)
			simple(t, Lazy(Repeat(c[0], c[1], kid)), want)
		}
		for _, kid := range []api.Tree{Empty(), Cat(), Cat(Empty()), Alt(Empty()), Star(At(1)), Repeat(0, 0, Letter('a'))} {
			simple(t, Repeat(c[0], c[1], kid), Empty())
			simple(t, Lazy(Repeat(c[0], c[1], kid)), Empty())
		}
	}
}

// TestCountsOfPlaces: a place is still, and so of it any number is none, or as many as must be.
func TestCountsOfPlaces(t *testing.T) {
	x := At(api.AtWord)
	for _, w := range []struct {
		least, most int
		want        api.Tree
	}{
		{0, 0, Empty()}, {1, 1, x}, {2, 2, Cat(x, x)}, {0, -1, Empty()}, {1, -1, x}, {2, -1, Cat(x, x)}, {3, -1, Cat(x, x, x)}, {0, 1, Quest(x)}, {1, 2, Cat(x, Quest(x))}, {0, 2, Quest(Cat(x, Quest(x)))},
	} {
		simple(t, Repeat(w.least, w.most, x), w.want)
		simple(t, Cat(Repeat(w.least, w.most, Cat(x, Empty())), Letter('a')), flat(w.want, Letter('a')))
	}
}

// flat is an OpCat of trees, in which an OpCat's Kids stand in its place; of one it.
func flat(all ...api.Tree) api.Tree {
	var kids []api.Tree
	for _, tree := range all {
		switch tree.Op {
		case api.OpEmpty:
		case api.OpCat:
			kids = append(kids, tree.Kids...)
		default:
			kids = append(kids, tree)
		}
	}
	if len(kids) == 1 {
		return kids[0]
	}
	return Cat(kids...)
}

// TestCountsOfCats: what is repeated is joined to what stands beside it.
func TestCountsOfCats(t *testing.T) {
	a, b, c := Letter('a'), Letter('b'), Letter('c')
	ab := Cat(a, b)
	for _, w := range []struct {
		least, most int
		want        []api.Tree
	}{
		{0, 0, nil}, {1, 1, []api.Tree{a, b}}, {2, 2, []api.Tree{a, b, a, b}}, {0, -1, []api.Tree{Star(ab)}}, {1, -1, []api.Tree{Plus(ab)}}, {2, -1, []api.Tree{a, b, Plus(ab)}}, {3, -1, []api.Tree{a, b, a, b, Plus(ab)}},
		{0, 1, []api.Tree{Quest(ab)}}, {1, 2, []api.Tree{a, b, Quest(ab)}}, {0, 2, []api.Tree{Quest(Cat(a, b, Quest(ab)))}}, {1, 3, []api.Tree{a, b, Quest(Cat(a, b, Quest(ab)))}},
	} {
		for _, kid := range []api.Tree{ab, Cat(Cat(a), Cat(Empty(), b)), Alt(ab), Alt(None(), Cat(a, Cat(b)))} {
			tree := Repeat(w.least, w.most, kid)
			simple(t, Cat(c, tree), flat(append([]api.Tree{c}, w.want...)...))
			simple(t, Cat(tree, c), flat(append(slices.Clone(w.want), c)...))
			simple(t, Cat(tree, tree, c), flat(append(append(slices.Clone(w.want), w.want...), c)...))
			if len(w.want) > 0 {
				simple(t, tree, flat(w.want...))
			}
		}
	}
}

// TestCountsOfGroups: a group's number and its name stay, in each copy.
func TestCountsOfGroups(t *testing.T) {
	a := Letter('a')
	for _, name := range []string{"", "x"} {
		g := Group(1, name, a)
		simple(t, Repeat(3, 3, g), Cat(g, g, g))
		simple(t, Repeat(2, 4, g), Cat(g, g, Quest(Cat(g, Quest(g)))))
		simple(t, Lazy(Repeat(2, -1, g)), Cat(g, Lazy(Plus(g))))
		simple(t, Cat(Repeat(2, 2, g), Group(2, "", a)), Cat(g, g, Group(2, "", a)))
		simple(t, Repeat(0, 0, g), Empty())
		inner := Group(1, name, Cat(Group(2, "y", a), At(1)))
		simple(t, Repeat(1, 2, inner), Cat(inner, Quest(inner)))
		simple(t, Cat(Repeat(0, 0, Group(1, name, a)), Group(2, "", a)), Group(2, "", a)) // a number is left out
		still := Group(1, name, At(1))
		simple(t, Repeat(2, -1, still), Cat(still, still))
	}
}

// TestCountsOfCounts: repeats within repeats.
func TestCountsOfCounts(t *testing.T) {
	a := Letter('a')
	q, l := Quest, func(kid api.Tree) api.Tree { return Lazy(Quest(kid)) }
	for _, x := range []struct{ tree, want api.Tree }{
		{Repeat(2, 2, Repeat(2, 2, a)), Cat(a, a, a, a)}, {Repeat(2, 2, Repeat(1, 2, a)), Cat(a, q(a), a, q(a))}, {Repeat(1, 2, Repeat(2, 2, a)), Cat(a, a, q(Cat(a, a)))}, {Repeat(0, 1, Repeat(0, 1, a)), q(q(a))}, {Repeat(0, 1, Lazy(Repeat(0, 1, a))), q(l(a))}, {Lazy(Repeat(0, 1, Repeat(0, 1, a))), l(q(a))},
		{Repeat(2, -1, Repeat(2, -1, a)), Cat(a, Plus(a), Plus(Cat(a, Plus(a))))}, {Repeat(0, -1, Repeat(0, -1, a)), Star(Star(a))}, {Repeat(1, -1, Repeat(1, -1, a)), Plus(Plus(a))}, {Repeat(0, 0, Repeat(3, 3, a)), Empty()}, {Repeat(3, 3, Repeat(0, 0, a)), Empty()}, {Repeat(0, 2, Repeat(0, 2, a)), q(Cat(q(Cat(a, q(a))), q(q(Cat(a, q(a))))))},
		{Repeat(2, 2, Star(a)), Cat(Star(a), Star(a))}, {Star(Repeat(2, 2, a)), Star(Cat(a, a))}, {Plus(Repeat(0, 1, a)), Plus(q(a))}, {Repeat(0, -1, Repeat(0, -1, At(1))), Empty()}, {Repeat(2, 2, Group(1, "", Repeat(2, 2, Group(2, "", a)))), Cat(Group(1, "", Cat(Group(2, "", a), Group(2, "", a))), Group(1, "", Cat(Group(2, "", a), Group(2, "", a))))},
	} {
		simple(t, x.tree, x.want)
	}
}
