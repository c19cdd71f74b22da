package prefix_test

import (
	"fmt"
	"slices"
	"testing"

	"martello/api"
	"martello/inputs"
	"martello/prefix"
	. "martello/samples"
)

// memoryTrees are shaped trees with each kind of part, and some that are not shaped.
func memoryTrees() []api.Tree {
	a, b := Letter('a'), Letter('b')
	kids := []api.Tree{a, Group(1, "", b)}
	all := []api.Tree{{}, Set(5, 4), Cat(a, Letter(-1)), Group(9, "x", a), Cat(), Cat(Of(api.OpCat, kids...), Of(api.OpCat, kids...), Plus(Of(api.OpCat, kids...))), Cat(a, b, a, b, a), Cat(a, b, Set('a', 'b'), a)}
	all = append(all, Around(1, 1)...)
	return append(all, Around(2, 3)...)
}

// answer is what is told of a tree, as a text; and the list of it.
func answer(tree api.Tree) (string, []rune) {
	l, exact := prefix.Prefix(tree)
	return fmt.Sprintf("%q %t", l, exact), l
}

// fill writes over a list, and its spare room.
func fill(l []rune) {
	for i := range l[:cap(l)] {
		l[:cap(l)][i] = -77
	}
}

// TestUnchanged: rule P3: the tree that is handed in, and its spare room, stays as it was, while it is asked, and when what was told is written over.
func TestUnchanged(t *testing.T) {
	for _, tree := range memoryTrees() {
		tree = Roomy(tree)
		before := Whole(tree)
		_, l := answer(tree)
		for range 2 {
			if !Same(Whole(tree), before) {
				t.Errorf("%s: was %s", Shown(Whole(tree)), Shown(before))
			}
			fill(l)
		}
	}
}

// TestNotKept: rule P3: what was told stays as it was when the tree is written over.
func TestNotKept(t *testing.T) {
	for _, tree := range memoryTrees() {
		tree = Roomy(tree)
		l, _ := prefix.Prefix(tree)
		was := slices.Clone(l)
		Spoil(tree)
		if !slices.Equal(l, was) {
			t.Errorf("%q; was %q", l, was)
		}
	}
}

// TestToldAgain: rule P3: what is told hangs on the tree alone, whatever was asked ahead, and though what was told is written over.
func TestToldAgain(t *testing.T) {
	all := memoryTrees()
	var first []string
	for _, tree := range all {
		text, l := answer(tree)
		first = append(first, text)
		fill(l)
	}
	for i, tree := range slices.Backward(all) {
		text, l := answer(tree)
		_, again := answer(Roomy(tree))
		fill(again)
		if text != first[i] || fmt.Sprintf("%q", l) != text[:len(fmt.Sprintf("%q", l))] {
			t.Errorf("%s: %s; was %s", Shown(tree), text, first[i])
		}
	}
}

// TestIndexUnchanged: rule P3: the input and the list, and its spare room, stay as they were, and what is told hangs on them alone.
func TestIndexUnchanged(t *testing.T) {
	in := Made(t, "abac\xffab")
	was := fmt.Sprint(*in)
	for _, s := range append(Texts(3, "a", "b"), "\ufffda", "abac\ufffdab") {
		room := append([]rune(s), 'a', 'b', 'a')
		l, before := room[:len(room)-3], slices.Clone(room)
		for _, from := range []int{-1, 0, 3, 7, 8} {
			want := modelIndex(in, l, from)
			stands(t, in, l, from, want)
			stands(t, Made(t, "bbbb"), []rune("b"), 0, 0)
			stands(t, in, l, from, want)
		}
		if !slices.Equal(room, before) || fmt.Sprint(*in) != was {
			t.Fatalf("%q: was %q", room, before)
		}
	}
}

// TestListNotKept: rule P3: a list may be written over, and be asked anew.
func TestListNotKept(t *testing.T) {
	in := Made(t, "abcab")
	l := []rune("ab")
	stands(t, in, l, 1, 3)
	copy(l, []rune("bc"))
	stands(t, in, l, 0, 1)
	fill(l)
	stands(t, in, l, 0, -1)
	stands(t, in, []rune("ab"), 1, 3)
}

// TestAtOnce: rule P3: calls at the same time, of the same trees and the same input, tell what they tell one by one.
func TestAtOnce(t *testing.T) {
	all, in := memoryTrees(), Made(t, "abac\xffab")
	if i := AtOnce(len(all), func(i int) string { return both(all[i], in) }); i >= 0 {
		t.Errorf("%s: told otherwise", Shown(all[i]))
	}
}

// both are what is told of a tree, and where its prefix stands; the prefix is written over behind that.
func both(tree api.Tree, in *inputs.Input) string {
	text, l := answer(tree)
	for from := range in.Len() + 1 {
		text += fmt.Sprint(" ", prefix.Index(in, l, from))
	}
	fill(l)
	return text
}
