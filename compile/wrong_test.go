package compile_test

import (
	"math"
	"slices"
	"testing"

	"martello/api"
	. "martello/samples"
	"martello/trees"
)

// noGroups are numbers of groups that may not be asked for.
var noGroups = []int{-1, -2, -2000, 2001, 2002, 4000, math.MinInt32, math.MaxInt32, math.MinInt, math.MaxInt, math.MaxInt / 2, math.MaxInt/2 + 1}

// TestMisshapen: O1: trees that are not shaped, of each kind.
func TestMisshapen(t *testing.T) {
	for _, bad := range Misshapen() {
		if trees.Shaped(bad) {
			t.Error(brief(bad))
		}
		for _, groups := range []int{0, 1, 2000, -1, 2001} {
			refuses(t, bad, groups, api.ErrTreeForm)
		}
	}
	refuses(t, Nested(1<<16-1, Letter(-1), Star), 0, api.ErrTreeForm)
	refuses(t, Cat(append(slices.Repeat([]api.Tree{Letter('a')}, 100000), Set())...), 0, api.ErrTreeForm)
}

// TestNoGroups: O1: groups from none to MaxGroups may be asked for, whatever the tree has.
func TestNoGroups(t *testing.T) {
	for _, tree := range []api.Tree{Empty(), Letter('a'), Group(1, "", Letter('a')), Group(2001, "", Letter('a')), Cat(), Star(Alt(At(1), None()))} {
		for _, groups := range []int{0, 1, 2, 1000, 1999, 2000} {
			asModelled(t, tree, groups)
		}
		for _, groups := range noGroups {
			refuses(t, tree, groups, api.ErrTreeForm)
		}
	}
}

// TestCounted: O1: a counted repeat anywhere in a tree, of each count, of what has code and of what has none.
func TestCounted(t *testing.T) {
	a := Letter('a')
	for _, c := range Counts() {
		for _, kid := range []api.Tree{a, Empty(), None(), Cat(), Group(2, "", a)} {
			for _, bad := range []api.Tree{Repeat(c[0], c[1], kid), Lazy(Repeat(c[0], c[1], kid))} {
				all := []api.Tree{bad, Cat(bad), Cat(a, bad), Cat(bad, a), Cat(a, bad, a), Alt(bad), Alt(a, bad), Alt(bad, a), Alt(a, a, bad, a), Star(bad), Plus(bad), Lazy(Quest(bad)), Group(1, "", bad), Group(2001, "x", bad), Repeat(1, 1, bad), Cat(Alt(Cat(bad))), Star(Cat(a, Alt(a, Plus(Group(1, "", bad))))), Cat(None(), bad), Nested(1000, bad, Quest)}
				for _, tree := range all {
					for _, groups := range []int{0, 2000} {
						if !trees.Shaped(tree) {
							t.Error(brief(tree))
						}
						refuses(t, tree, groups, api.ErrTreeForm)
					}
				}
			}
		}
	}
	refuses(t, Repeat(1000, 1000, a), 0, api.ErrTreeForm)
	refuses(t, Repeat(1000, -1, a), 0, api.ErrTreeForm)
	for _, in := range Outers() {
		refuses(t, in(Repeat(1, 1, a)), 1, api.ErrTreeForm)
	}
}

// TestBothErrors: rule P2: of a tree that is none, and too great as well, it is told that it is none; wherever in it that stands.
func TestBothErrors(t *testing.T) {
	a := Letter('a')
	for _, bad := range []api.Tree{Letter(-1), {}, Set(5, 4), At(3), Group(0, "", a), Repeat(1, 1, a), Repeat(0, 0, a), Repeat(2, 1, a), Alt()} {
		for _, n := range []int{9999, 10000, 30000} {
			many := slices.Repeat([]api.Tree{a}, n)
			for _, tree := range []api.Tree{Cat(append(many, bad)...), Cat(append([]api.Tree{bad}, many...)...), Alt(append(many, bad)...), Star(Cat(Cat(many...), bad)), Cat(bad, Nested(n, a, Plus))} {
				refuses(t, tree, 0, api.ErrTreeForm)
				refuses(t, tree, -1, api.ErrTreeForm)
			}
			for _, groups := range noGroups {
				refuses(t, Cat(append(many, a)...), groups, api.ErrTreeForm)
			}
			refuses(t, Cat(append(many, a)...), 0, api.ErrTooMany)
		}
	}
}

// TestEmptyLists: lists without items are none, nil or not.
func TestEmptyLists(t *testing.T) {
	compiles(t, api.Tree{Op: api.OpRune, Rune: 'a', Kids: []api.Tree{}, Set: []api.Range{}}, 0, "1 set a 0; 1")
	compiles(t, api.Tree{Op: api.OpCat, Kids: []api.Tree{}, Set: []api.Range{}}, 0, "; 0")
	compiles(t, api.Tree{Op: api.OpNone, Kids: []api.Tree{}}, 0, "1 fail; 1")
	compiles(t, api.Tree{Op: api.OpEmpty, Kids: make([]api.Tree, 0, 3)}, 0, "; 0")
}
