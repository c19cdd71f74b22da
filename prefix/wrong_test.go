package prefix_test

import (
	"math"
	"testing"

	"martello/api"
	. "martello/samples"
	"martello/trees"
)

// TestMisshapen: F1, rule P2: trees that are not shaped, of each kind, have no prefix; also where what is wrong stands behind all that the prefix hangs on.
func TestMisshapen(t *testing.T) {
	a := Letter('a')
	for _, bad := range Misshapen() {
		if trees.Shaped(bad) {
			t.Error(brief(bad))
		}
		for _, tree := range []api.Tree{bad, Cat(a, a, bad), Cat(a, Star(a), bad), Cat(a, Alt(a, bad)), Cat(a, Star(bad)), Plus(Cat(a, Repeat(0, 0, bad)))} {
			begins(t, tree, "", false)
		}
	}
}

// TestMisnumbered: F1: trees that are not right, but shaped: groups of any number, names twice.
func TestMisnumbered(t *testing.T) {
	for _, tree := range Misnumbered() {
		if trees.Right(tree) {
			t.Error(brief(tree))
		}
		asModelled(t, tree)
	}
	a := Letter('a')
	begins(t, Cat(Group(2, "x", a), Group(2, "x", a)), "aa", true)
	begins(t, Group(1, "", Group(1, "", a)), "a", true)
}

// TestEmptyLists: lists without items are none, nil or not.
func TestEmptyLists(t *testing.T) {
	begins(t, api.Tree{Op: api.OpRune, Rune: 'a', Kids: []api.Tree{}, Set: []api.Range{}}, "a", true)
	begins(t, api.Tree{Op: api.OpCat, Kids: []api.Tree{}}, "", true)
	begins(t, api.Tree{Op: api.OpEmpty, Kids: make([]api.Tree, 0, 3)}, "", true)
	begins(t, api.Tree{Op: api.OpAlt, Kids: []api.Tree{}}, "", false) // no tree
	stands(t, Made(t, "a"), nil, 0, 0)
	stands(t, Made(t, "a"), []rune{}, 1, 1)
}

// TestNoInput: F2: without an input nothing stands anywhere, not even nothing.
func TestNoInput(t *testing.T) {
	for _, from := range []int{math.MinInt, -1, 0, 1, math.MaxInt} {
		for _, l := range [][]rune{nil, {}, {'a'}, {-1}, {'a', 'b', 'a'}} {
			stands(t, nil, l, from, -1)
		}
	}
}
