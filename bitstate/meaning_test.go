package bitstate_test

import (
	"testing"

	"martello/api"
	"martello/bitstate"
	"martello/denote"
	"martello/inputs"
	"martello/onepass"
	. "martello/samples"
	"martello/trees"
)

// meant is what a tree means, as it is asked: denote.Find's, anchored denote.Match's.
func meant(tree api.Tree, groups int, in *inputs.Input, q question) []int {
	ask := denote.Find
	if q.anchored {
		ask = denote.Match
	}
	if fit, is := ask(tree, groups, in, q.from, q.longest); is {
		return fit
	}
	return nil
}

// asMeant holds what a tree's program finds against what the tree means, with so many groups, from each place of texts, and from beside them.
func asMeant(t *testing.T, tree api.Tree, groups int, texts ...string) {
	t.Helper()
	p := Compiled(t, tree, groups)
	for _, text := range texts {
		in := Made(t, text)
		if !bitstate.Admits(p, in) {
			continue
		}
		for from := -1; from <= in.Len()+1; from++ {
			for _, q := range questions(from) {
				finds(t, p, in, q, meant(tree, groups, in, q))
			}
		}
	}
}

// allMeant is asMeant with each number of groups, and one more than there are.
func allMeant(t *testing.T, tree api.Tree, texts ...string) {
	t.Helper()
	for groups := range len(trees.Caps(tree)) + 1 {
		asMeant(t, tree, groups, texts...)
	}
}

// TestMeaning: P16.2: of all small trees, and some greater ones.
func TestMeaning(t *testing.T) {
	for n, each := range []int{1, 1, 3, 101} {
		for _, tree := range Around(n, each) {
			allMeant(t, tree, "", "a", "xa", "aax", "bxaxab")
		}
	}
	for _, at := range SixAts() {
		for _, in := range Outers() {
			allMeant(t, Numbered(Cat(in(Alt(At(at), Letter('a'))), Quest(Set('b', 'c')), At(at))), "", "a", "ab", "a\nb", "b a\n")
		}
	}
}

// TestMeaningOfPatterns: P16.2: of patterns of each kind of part.
func TestMeaningOfPatterns(t *testing.T) {
	for _, tree := range PatternTrees() {
		allMeant(t, tree, "", "aba", "abcdab", "kK\u212a.b\n\xff", "aab\nba")
	}
}

// TestMeaningOfLoops: P16.2: of loops, groups and what fits nothing in one another, in all short texts.
func TestMeaningOfLoops(t *testing.T) {
	for _, pattern := range Loops() {
		allMeant(t, Parsed(t, pattern), append(Texts(4, "a", "b"), "abbabaab", "aaaaaaaa", "bcabcd")...)
	}
}

// TestMeaningOfGroups: P16.2: of groups with any numbers, one in another by the same number.
func TestMeaningOfGroups(t *testing.T) {
	for _, tree := range Misnumbered() {
		for groups := range 4 {
			asMeant(t, tree, groups, "", "a", "aaa", "baa")
		}
	}
}

// TestAsOnepass: theorem T2: where there is no choice, the machine of one pass tells the same.
func TestAsOnepass(t *testing.T) {
	some := 0
	for _, tree := range PatternTrees() {
		tree = Numbered(Cat(At(api.AtBegin), tree))
		p := Compiled(t, tree, len(trees.Caps(tree))-1)
		if !onepass.Admits(p) {
			continue
		}
		some++
		for _, text := range []string{"", "aba", "abcdab", "kK\u212a.b\n\xff", "aab\nba"} {
			in := Made(t, text)
			for _, longest := range []bool{false, true} {
				want, _, _ := onepass.Match(p, in, longest)
				if bitstate.Admits(p, in) {
					finds(t, p, in, question{0, false, longest}, want)
					finds(t, p, in, question{0, true, longest}, want)
				}
			}
		}
	}
	if some < 100 {
		t.Errorf("%d are admitted", some)
	}
}
