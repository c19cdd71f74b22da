package trees_test

import (
	"slices"
	"testing"

	"martello/api"
	. "martello/samples"
	"martello/trees"
)

// ask asks all that there is to ask.
func ask(t api.Tree) (bool, bool, int, int, bool, bool) {
	return trees.Right(t), trees.Shaped(t), trees.Depth(t), trees.Weight(t), trees.Empty(t), trees.Still(t)
}

// memoryTrees are right trees, and some that are not.
func memoryTrees() []api.Tree {
	set := Set('0', '9', 'a', 'z')
	all := append(eachOp(), Cat(set, Group(1, "x", Cat(set, Letter('a'), At(1))), Repeat(1, 2, Alt(set, Cat(Letter('b'), set, Group(2, "y", set))))), Cat(set, Letter(-1)), Of(13, set), chain(51))
	for i, t := range all {
		all[i] = Roomy(t)
	}
	return all
}

// TestUnchanged: what is handed in, and its spare room, stays as it was.
func TestUnchanged(t *testing.T) {
	for _, tree := range memoryTrees() {
		before := Whole(tree)
		ask(tree)
		trees.Caps(tree)
		trees.Turned(tree)
		if after := Whole(tree); !Same(before, after) {
			t.Errorf("%s: was %s", show(after), show(before))
		}
	}
}

// TestToldAgain: what was told may be changed: what is told behind that is as before, and so is the tree.
func TestToldAgain(t *testing.T) {
	for _, tree := range memoryTrees() {
		before := Whole(tree)
		right, shaped, depth, weight, empty, still := ask(tree)
		caps, turned := trees.Caps(tree), trees.Turned(tree)
		names, kept := slices.Clone(caps), copied(turned)
		for i := range caps[:cap(caps)] {
			caps[:cap(caps)][i] = "spoilt"
		}
		if !Same(turned, kept) {
			t.Errorf("%s: Caps and Turned share", show(tree))
		}
		Spoil(turned)
		if after := Whole(tree); !Same(before, after) {
			t.Errorf("%s: was %s", show(after), show(before))
		}
		r, s, d, w, e, l := ask(tree)
		if r != right || s != shaped || d != depth || w != weight || e != empty || l != still {
			t.Errorf("%s: told otherwise", show(tree))
		}
		if c, u := trees.Caps(tree), trees.Turned(tree); !slices.Equal(c, names) || !Same(u, kept) {
			t.Errorf("%s: Caps %q, turned %s; not %q, %s", show(tree), c, show(u), names, show(kept))
		}
	}
}

// TestNotKept: what is handed in may be changed: what was told stays as it was.
func TestNotKept(t *testing.T) {
	for _, tree := range memoryTrees() {
		caps, turned := trees.Caps(tree), trees.Turned(tree)
		names, kept := slices.Clone(caps), copied(turned)
		Spoil(tree)
		if !slices.Equal(caps, names) || !Same(turned, kept) {
			t.Errorf("%s: Caps %q, turned %s; not %q, %s", show(tree), caps, show(turned), names, show(kept))
		}
	}
}

// TestNoSharing: no two lists of a turned tree share any, also where the tree's do.
func TestNoSharing(t *testing.T) {
	kid := Cat(Set('a', 'b'), Letter('c'))
	tree := Cat(kid, Star(kid), kid)
	turned := trees.Turned(tree)
	want := copied(turned)
	Spoil(turned.Kids[0])
	if !Same(turned.Kids[1], want.Kids[1]) || !Same(turned.Kids[2], want.Kids[2]) {
		t.Errorf("%s; not %s", show(turned), show(want))
	}
	if !Same(trees.Turned(tree), want) {
		t.Errorf("%s; not %s", show(trees.Turned(tree)), show(want))
	}
}
