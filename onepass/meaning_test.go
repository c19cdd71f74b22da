package onepass_test

import (
	"slices"
	"testing"

	"martello/api"
	"martello/denote"
	"martello/onepass"
	. "martello/samples"
	"martello/trees"
)

// asMeant holds what a tree's program finds against what the tree means from the beginning, if it is admitted, with each number of groups; it tells whether it is.
func asMeant(t *testing.T, tree api.Tree, texts ...string) bool {
	t.Helper()
	admitted := false
	for groups := range len(trees.Caps(tree)) {
		p := Compiled(t, tree, groups)
		if !onepass.Admits(p) {
			continue
		}
		admitted = true
		for _, text := range texts {
			in := Made(t, text)
			for _, longest := range []bool{false, true} {
				want, is := denote.Match(tree, groups, in, 0, longest)
				if !is {
					want = nil
				}
				matches(t, p, in, longest, want)
			}
			for from := range in.Len() {
				if _, is := denote.Match(tree, groups, in, from+1, false); is {
					t.Errorf("%s in %q: fits from %d", Shown(tree), text, from+1)
				}
			}
		}
	}
	return admitted
}

// rows are runes and groups of such, one behind the other: all of up to n parts, with groups so deep in one another.
func rows(n, deep int) []api.Tree {
	atoms := []api.Tree{Letter('a'), Letter('b')}
	if deep > 0 {
		for _, row := range rows(n-1, deep-1) {
			atoms = append(atoms, Group(0, "", row))
		}
	}
	all, last := []api.Tree{Empty(), Cat()}, [][]api.Tree{nil}
	for range n {
		var next [][]api.Tree
		for _, row := range last {
			for _, atom := range atoms {
				more := append(slices.Clone(row), atom)
				next = append(next, more)
				all = append(all, Cat(more...))
			}
		}
		last = next
	}
	return append(all, atoms...)
}

// TestRows: P15.2: runes and groups of such behind AtBegin are admitted, and find what they mean.
func TestRows(t *testing.T) {
	texts := append(Texts(3, "a", "b"), "abba", "aabb")
	for _, row := range slices.Concat(rows(2, 2), rows(3, 1)) {
		tree := Numbered(Cat(At(api.AtBegin), row))
		if len(row.Kids) > 0 && row.Op == api.OpCat {
			tree = Numbered(Cat(append([]api.Tree{At(api.AtBegin)}, row.Kids...)...))
		}
		for groups := range len(trees.Caps(tree)) + 1 {
			admits(t, Compiled(t, tree, groups), true)
		}
		if !asMeant(t, tree, texts[trees.Weight(tree)%2:]...) || t.Failed() {
			t.Fatal(Shown(tree))
		}
	}
	for _, pattern := range []string{`\A`, `\Aa`, `\Aabc`, `\A(a)`, `\A()`, `\A(a)(b)`, `\A((a)b(c(d)))`, `\A\x{10ffff}(é)`, `\Aaaaa(aa(aa))`, `\A(?P<x>k)(?P<y>K)`} {
		tree := Parsed(t, pattern)
		admits(t, ProgOf(t, pattern), true)
		asMeant(t, tree, "", "a", "abc", "abcd", "kK", "aaaaaaaa")
	}
}

// TestMeaning: P15.1, P15.3: of all small trees, and some greater ones, as they are, and where a text begins.
func TestMeaning(t *testing.T) {
	some := 0
	for n, each := range []int{1, 1, 3, 61} {
		for _, tree := range Around(n, each) {
			for _, tree := range []api.Tree{tree, Numbered(Cat(At(api.AtBegin), tree)), Numbered(Cat(At(api.AtBegin), tree, Set('y', 'z')))} {
				if asMeant(t, tree, "", "a", "xa", "aax", "axab", "ay", "aaz", "y") {
					some++
				}
			}
		}
	}
	if some < 500 {
		t.Errorf("%d are admitted", some)
	}
}

// TestMeaningOfPatterns: P15.1, P15.3: of patterns of each kind of part, where a text begins.
func TestMeaningOfPatterns(t *testing.T) {
	some := 0
	for _, tree := range PatternTrees() {
		for _, tree := range []api.Tree{tree, Numbered(Cat(At(api.AtBegin), tree))} {
			if asMeant(t, tree, "", "aba", "abcdab", "kK\u212a.b\n\xff", "aab\nba", "caab") {
				some++
			}
		}
	}
	if some < 300 {
		t.Errorf("%d are admitted", some)
	}
}

// TestMeaningOfGroups: P15.1: of groups with any numbers, one in another by the same number.
func TestMeaningOfGroups(t *testing.T) {
	some := 0
	for _, tree := range Misnumbered() {
		tree = Cat(At(api.AtBegin), tree)
		for groups := range 4 {
			p := Compiled(t, tree, groups)
			if !onepass.Admits(p) {
				continue
			}
			some++
			for _, text := range []string{"", "a", "aaa", "baa"} {
				for _, longest := range []bool{false, true} {
					want, is := denote.Match(tree, groups, Made(t, text), 0, longest)
					if !is {
						want = nil
					}
					matches(t, p, Made(t, text), longest, want)
				}
			}
		}
	}
	if some < 20 {
		t.Errorf("%d are admitted", some)
	}
}
