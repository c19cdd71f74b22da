package prefix_test

import (
	"slices"
	"testing"

	"martello/api"
	"martello/inputs"
	. "martello/samples"
	"martello/simplify"
	"martello/trees"
)

// open stands in a model's prefix where it is not exact.
const open = -1

// modelPrefix is a shaped tree's, by the chapter's words, worked out in another manner than the program's: all that is told of all parts is put behind one another, and cut behind the first open.
func modelPrefix(t api.Tree) []rune {
	var kids []rune
	for _, kid := range t.Kids {
		kids = append(kids, modelPrefix(kid)...)
	}
	switch {
	case t.Op == api.OpEmpty || t.Op == api.OpCap || t.Op == api.OpCat || t.Op == api.OpAlt && len(t.Kids) < 2:
	case t.Op == api.OpRune:
		kids = append(kids, t.Rune)
	case t.Op == api.OpPlus || t.Op == api.OpRepeat && t.Min != 0:
		kids = append(kids, open)
	default:
		kids = []rune{open}
	}
	if i := slices.Index(kids, open); i >= 0 {
		kids = kids[:i+1]
	}
	return kids
}

// asModelled holds Prefix of a shaped tree against the model.
func asModelled(t *testing.T, tree api.Tree) {
	t.Helper()
	if !trees.Shaped(tree) {
		t.Fatalf("%s: not shaped", brief(tree))
	}
	want := modelPrefix(tree)
	n := len(want)
	if n > 0 && want[n-1] == open {
		has(t, tree, want[:n-1], false)
	} else {
		has(t, tree, want, true)
	}
}

// TestSmallTrees: P14.1 of F1: each Op in each other one, alone and beside others, and of these made plain.
func TestSmallTrees(t *testing.T) {
	for n, each := range []int{1, 1, 1, 7} {
		for _, tree := range Around(n, each) {
			asModelled(t, tree)
			asModelled(t, simplify.Simple(tree))
			asModelled(t, trees.Turned(tree))
		}
	}
}

// TestPatternTrees: P14.1 of F1: patterns of each kind.
func TestPatternTrees(t *testing.T) {
	for _, tree := range PatternTrees() {
		asModelled(t, tree)
		asModelled(t, simplify.Simple(tree))
		asModelled(t, Cat(Letter('x'), Group(1, "", tree), Letter('y'), tree))
	}
}

// modelIndex is Index by the chapter's words: each place is asked, the last one first, whether what stands there is the list.
func modelIndex(in *inputs.Input, l []rune, from int) int {
	var all []rune
	for i := range in.Len() {
		all = append(all, in.Rune(i))
	}
	least := -1
	for at := len(all) - len(l); at >= 0 && at >= from; at-- {
		if slices.Equal(all[at:at+len(l)], l) {
			least = at
		}
	}
	return least
}
