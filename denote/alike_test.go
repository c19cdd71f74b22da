package denote_test

import (
	"slices"
	"testing"

	"martello/api"
	"martello/denote"
	"martello/inputs"
	"martello/printer"
	. "martello/samples"
	"martello/simplify"
	"martello/syntax"
	"martello/trees"
)

// alike holds P11.3 and P11.4 of a right tree in texts. It tells whether its text could be read again.
func alike(t *testing.T, tree api.Tree, texts ...string) (again bool) {
	t.Helper()
	groups := len(trees.Caps(tree)) - 1
	pattern, e := printer.Print(tree)
	written, wrong := syntax.Parse(pattern, api.FlagPerl)
	again = e == api.OK && wrong.E == api.OK
	if !trees.Right(tree) || !again && len(pattern) <= api.MaxPat {
		t.Fatalf("%s: printed %q, %d, %+v", Shown(tree), pattern, e, wrong)
	}
	for _, text := range texts {
		in := Made(t, text)
		sameLists(t, tree, simplify.Simple(tree), groups, in)
		if again {
			sameLists(t, tree, written, groups, in)
		}
		turns(t, tree, in)
	}
	return again
}

// sameLists: P11.3: has the other tree the same List from each place?
func sameLists(t *testing.T, tree, other api.Tree, groups int, in *inputs.Input) {
	t.Helper()
	for at := range in.Len() + 1 {
		want, have := listed(t, tree, groups, in, at), listed(t, other, groups, in, at)
		if !slices.EqualFunc(want, have, slices.Equal) {
			t.Errorf("%s in %q from %d: %s; but of %s %s", Shown(tree), in.Bytes(0, in.Len()), at, shown(want), Shown(other), shown(have))
		}
	}
}

// turns: P11.4: does the tree fit just where the tree turned fits in the input turned?
func turns(t *testing.T, tree api.Tree, in *inputs.Input) {
	t.Helper()
	n := in.Len()
	turned, back := trees.Turned(tree), in.Turned()
	var spans, others [][2]int
	for at := range n + 1 {
		for _, fit := range denote.List(tree, 0, in, at) {
			spans = append(spans, [2]int{at, fit[1]})
		}
		for _, fit := range denote.List(turned, 0, back, at) {
			others = append(others, [2]int{n - fit[1], n - at})
		}
	}
	order := func(a, b [2]int) int { return slices.Compare(a[:], b[:]) }
	slices.SortFunc(spans, order)
	slices.SortFunc(others, order)
	if !slices.Equal(spans, others) {
		t.Errorf("%s in %q: %v; turned: %v", Shown(tree), in.Bytes(0, n), spans, others)
	}
}

// TestAlike: P11.3, P11.4: of small trees, each Op in each other one.
func TestAlike(t *testing.T) {
	for n, each := range []int{1, 1, 3, 151} {
		for _, tree := range Around(n, each) {
			alike(t, tree, "", "xa", "aaxab", "a\nxa\xff")
		}
	}
	a, b := Letter('a'), Set('b', 'c')
	for _, at := range []api.At{api.AtBegin, api.AtEnd, api.AtBeginLine, api.AtEndLine, api.AtWord, api.AtNoWord} {
		for _, in := range Outers() {
			alike(t, Numbered(Cat(in(Alt(At(at), a)), Quest(b), At(at))), "", "a", "ab", "a\nb", "\n", "b a\n")
			alike(t, Numbered(Alt(Cat(a, At(at), b), in(Cat(At(at), Set('\n', '\n', 'a', 'b'))))), "ab", "aab\n\nba", "b\xffa")
		}
	}
}

// TestAlikePatterns: P11.3, P11.4: patterns of each kind, under several flags; and loops in one another.
func TestAlikePatterns(t *testing.T) {
	read := 0
	for _, tree := range PatternTrees() {
		if alike(t, tree, "", "aba", "abcdab", "kK\u212a.b\n\xff", "aab\nba") {
			read++
		}
	}
	if read < 800 {
		t.Errorf("%d texts were read again", read)
	}
}

// TestAlikeGroups: P11.3: made plain and printed a tree keeps its groups, turned it has none.
func TestAlikeGroups(t *testing.T) {
	tree := Parsed(t, "(?:(a)|(b)){2,3}(c)?")
	pattern, _ := printer.Print(tree)
	for _, other := range []api.Tree{tree, simplify.Simple(tree), Parsed(t, pattern)} {
		lists(t, other, 3, "abb", 0, "3 0-1 2-3 ., 2 0-1 1-2 .")
		lists(t, other, 3, "babc", 0, "4 1-2 2-3 3-4, 3 1-2 2-3 ., 2 1-2 0-1 .")
	}
	lists(t, trees.Turned(tree), 3, "cba", 0, "3 . . .")
}
