package trees_test

import (
	"slices"
	"testing"

	"martello/api"
	"martello/trees"
)

// roomy is a copy of a tree whose lists have spare room, with something in it.
func roomy(t api.Tree) api.Tree {
	if t.Set != nil {
		t.Set = append(slices.Clone(t.Set), ranges(7, 7, 9, 9)...)[:len(t.Set)]
	}
	if t.Kids != nil {
		kids := append(slices.Clone(t.Kids), letter('!'), star(letter('?')))
		for i, kid := range t.Kids {
			kids[i] = roomy(kid)
		}
		t.Kids = kids[:len(t.Kids)]
	}
	return t
}

// whole is a copy of a tree with what its lists' spare room has as well.
func whole(t api.Tree) api.Tree {
	t.Set = slices.Clone(t.Set[:cap(t.Set)])
	t.Kids = slices.Clone(t.Kids[:cap(t.Kids)])
	for i, kid := range t.Kids {
		t.Kids[i] = whole(kid)
	}
	return t
}

// spoil overwrites all lists of a tree, and their spare room.
func spoil(t api.Tree) {
	for _, kid := range t.Kids {
		spoil(kid)
	}
	for i := range t.Set[:cap(t.Set)] {
		t.Set[:cap(t.Set)][i] = api.Range{Lo: -7, Hi: -9}
	}
	for i := range t.Kids[:cap(t.Kids)] {
		t.Kids[:cap(t.Kids)][i] = api.Tree{Op: 99}
	}
}

// ask asks all that there is to ask.
func ask(t api.Tree) (bool, bool, int, int, bool, bool) {
	return trees.Right(t), trees.Shaped(t), trees.Depth(t), trees.Weight(t), trees.Empty(t), trees.Still(t)
}

// memoryTrees are right trees, and some that are not.
func memoryTrees() []api.Tree {
	set := set('0', '9', 'a', 'z')
	all := append(eachOp(), cat(set, grp(1, "x", cat(set, letter('a'), at(1))), repeat(1, 2, alt(set, cat(letter('b'), set, grp(2, "y", set))))), cat(set, letter(-1)), of(13, set), chain(51))
	for i, t := range all {
		all[i] = roomy(t)
	}
	return all
}

// TestUnchanged: what is handed in, and its spare room, stays as it was.
func TestUnchanged(t *testing.T) {
	for _, tree := range memoryTrees() {
		before := whole(tree)
		ask(tree)
		trees.Caps(tree)
		trees.Turned(tree)
		if after := whole(tree); !same(before, after) {
			t.Errorf("%s: was %s", show(after), show(before))
		}
	}
}

// TestToldAgain: what was told may be changed: what is told behind that is as before, and so is the tree.
func TestToldAgain(t *testing.T) {
	for _, tree := range memoryTrees() {
		before := whole(tree)
		right, shaped, depth, weight, empty, still := ask(tree)
		caps, turned := trees.Caps(tree), trees.Turned(tree)
		names, kept := slices.Clone(caps), copied(turned)
		for i := range caps[:cap(caps)] {
			caps[:cap(caps)][i] = "spoilt"
		}
		if !same(turned, kept) {
			t.Errorf("%s: Caps and Turned share", show(tree))
		}
		spoil(turned)
		if after := whole(tree); !same(before, after) {
			t.Errorf("%s: was %s", show(after), show(before))
		}
		r, s, d, w, e, l := ask(tree)
		if r != right || s != shaped || d != depth || w != weight || e != empty || l != still {
			t.Errorf("%s: told otherwise", show(tree))
		}
		if c, u := trees.Caps(tree), trees.Turned(tree); !slices.Equal(c, names) || !same(u, kept) {
			t.Errorf("%s: Caps %q, turned %s; not %q, %s", show(tree), c, show(u), names, show(kept))
		}
	}
}

// TestNotKept: what is handed in may be changed: what was told stays as it was.
func TestNotKept(t *testing.T) {
	for _, tree := range memoryTrees() {
		caps, turned := trees.Caps(tree), trees.Turned(tree)
		names, kept := slices.Clone(caps), copied(turned)
		spoil(tree)
		if !slices.Equal(caps, names) || !same(turned, kept) {
			t.Errorf("%s: Caps %q, turned %s; not %q, %s", show(tree), caps, show(turned), names, show(kept))
		}
	}
}

// TestNoSharing: no two lists of a turned tree share any, also where the tree's do.
func TestNoSharing(t *testing.T) {
	kid := cat(set('a', 'b'), letter('c'))
	tree := cat(kid, star(kid), kid)
	turned := trees.Turned(tree)
	want := copied(turned)
	spoil(turned.Kids[0])
	if !same(turned.Kids[1], want.Kids[1]) || !same(turned.Kids[2], want.Kids[2]) {
		t.Errorf("%s; not %s", show(turned), show(want))
	}
	if !same(trees.Turned(tree), want) {
		t.Errorf("%s; not %s", show(trees.Turned(tree)), show(want))
	}
}
