package compile_test

import (
	"slices"
	"testing"

	"martello/api"
	"martello/denote"
	. "martello/samples"
	"martello/simplify"
)

// finds holds what walks through a tree's program find, from each place of texts, against what the tree means: the same ends in the same order, with the same groups.
func finds(t *testing.T, tree api.Tree, groups int, texts ...string) {
	t.Helper()
	p := told(t, tree, groups)
	for _, text := range texts {
		in := Made(t, text)
		for from := range in.Len() + 1 {
			want, have := denote.List(tree, groups, in, from), Walked(p, in, from)
			if !slices.EqualFunc(have, want, slices.Equal) {
				t.Errorf("%s in %q from %d, %d groups: %v; not %v: %s", brief(tree), text, from, groups, have, want, shown(p))
			}
		}
	}
}

// bothFind is finds of a right tree made plain, and of the tree as it is, if it has no counted repeat.
func bothFind(t *testing.T, tree api.Tree, texts ...string) {
	t.Helper()
	for groups := range groupsOf(tree) + 2 {
		finds(t, simplify.Simple(tree), groups, texts...)
		if !counted(tree) {
			finds(t, tree, groups, texts...)
		}
	}
}

// TestMeaning: P13.3: of all small trees, and some greater ones.
func TestMeaning(t *testing.T) {
	for n, each := range []int{1, 1, 2, 61} {
		for _, tree := range Around(n, each) {
			bothFind(t, tree, "", "a", "xa", "aax", "axab")
		}
	}
	for _, at := range SixAts() {
		for _, in := range Outers() {
			bothFind(t, Numbered(Cat(in(Alt(At(at), Letter('a'))), Quest(Set('b', 'c')), At(at))), "", "a", "ab", "a\nb", "\n", "b a\n")
		}
	}
}

// TestMeaningOfPatterns: P13.3: of patterns of each kind of part.
func TestMeaningOfPatterns(t *testing.T) {
	for _, tree := range PatternTrees() {
		bothFind(t, tree, "", "aba", "abcdab", "kK\u212a.b\n\xff", "aab\nba")
	}
}

// TestMeaningOfGroups: P13.3: of groups with any numbers, one in another by the same number.
func TestMeaningOfGroups(t *testing.T) {
	for _, tree := range Misnumbered() {
		for groups := range 4 {
			finds(t, tree, groups, "", "a", "aaa", "baa")
		}
	}
	loop := Star(Group(1, "", Alt(Group(1, "", Letter('a')), Cat(Group(2, "", Letter('b')), Group(1, "", Empty())))))
	for groups := range 4 {
		finds(t, loop, groups, "", "a", "abab", "bba")
	}
}
