package denote_test

import (
	"math"
	"testing"

	"martello/api"
	. "martello/samples"
	"martello/trees"
)

// TestMisshapen: D1, rule P2: of trees that are not shaped, of each kind, there is nothing.
func TestMisshapen(t *testing.T) {
	in := Made(t, "ab")
	for _, bad := range Misshapen() {
		if trees.Shaped(bad) {
			t.Error(Shown(bad))
		}
		for _, at := range []int{0, 2, 3} {
			nothing(t, bad, 1, in, at)
		}
	}
}

// TestMisnumbered: trees that are not right, but shaped: groups of any number, names twice.
func TestMisnumbered(t *testing.T) {
	for _, tree := range Misnumbered() {
		if trees.Right(tree) || !trees.Shaped(tree) {
			t.Error(Shown(tree))
		}
		if holds(t, tree, 2, "", "aaa", "ba") == 0 || holds(t, tree, 0, "aa") == 0 {
			t.Error("not held:", Shown(tree))
		}
	}
}

// TestNoInput: without an input there is nothing.
func TestNoInput(t *testing.T) {
	for _, at := range []int{math.MinInt, -1, 0, 1, math.MaxInt} {
		nothing(t, Empty(), 0, nil, at)
		nothing(t, Star(Letter('a')), 1, nil, at)
		nothing(t, api.Tree{}, -1, nil, at)
	}
}

// TestNoPlaces: from what is no place there is nothing, but that Find begins at 0 below it: so finds holds it, too.
func TestNoPlaces(t *testing.T) {
	for _, text := range []string{"", "a", "é\xff", "世界"} {
		in := Made(t, text)
		for _, at := range []int{in.Len() + 1, in.Len() + 2, in.Len() + 64, math.MaxInt32, math.MaxInt - 1, math.MaxInt} {
			for _, tree := range []api.Tree{Empty(), Star(Set(0, 0x10ffff)), Cat(), At(api.AtEnd), At(api.AtNoWord), Group(1, "", Empty())} {
				nothing(t, tree, 1, in, at)
				nothing(t, tree, 0, in, at)
			}
		}
		for _, tree := range []api.Tree{Empty(), Star(Set(0, 0x10ffff)), Cat(), At(api.AtEnd), At(api.AtWord)} {
			for _, at := range []int{-1, -2, -64, math.MinInt32, math.MinInt} {
				if fits := listed(t, tree, 0, in, at); len(fits) > 0 {
					t.Errorf("%s from %d: %v", Shown(tree), at, fits)
				}
			}
			finds(t, tree, 0, in)
		}
	}
}

// TestSeveralWrongs: a tree, groups, an input and a place that may not be, in any sum, are nothing.
func TestSeveralWrongs(t *testing.T) {
	in := Made(t, "aa")
	for _, tree := range []api.Tree{Empty(), {}, Star(None()), Letter(-1)} {
		for _, groups := range []int{0, -1, 2001} {
			for _, at := range []int{0, 1, 3} {
				if groups != 0 || at == 3 || !trees.Shaped(tree) {
					nothing(t, tree, groups, in, at)
				}
				nothing(t, tree, groups, nil, at)
			}
		}
	}
}

// TestEmptyLists: lists without items are none, nil or not.
func TestEmptyLists(t *testing.T) {
	lists(t, api.Tree{Op: api.OpRune, Rune: 'a', Kids: []api.Tree{}, Set: []api.Range{}}, 0, "a", 0, "1")
	lists(t, api.Tree{Op: api.OpCat, Kids: []api.Tree{}, Set: []api.Range{}}, 0, "a", 0, "0")
	lists(t, api.Tree{Op: api.OpNone, Kids: []api.Tree{}}, 0, "a", 0, "")
}
