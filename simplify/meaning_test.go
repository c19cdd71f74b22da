package simplify_test

import (
	"fmt"
	"testing"

	"martello/api"
	"martello/denote"
	. "martello/samples"
	"martello/simplify"
	"martello/trees"
)

// fitsAlike holds what a tree fits, from each place of texts, against what is told of it fits: the same ends in the same order, with the same groups.
func fitsAlike(t *testing.T, tree api.Tree, texts ...string) {
	t.Helper()
	told, groups := simplify.Simple(tree), len(trees.Caps(tree))-1
	for _, text := range texts {
		in := Made(t, text)
		for from := range in.Len() + 1 {
			want, have := fmt.Sprint(denote.List(tree, groups, in, from)), fmt.Sprint(denote.List(told, groups, in, from))
			if have != want {
				t.Errorf("%s in %q from %d fits %s; made simple, %s, it fits %s", Shown(tree), text, from, want, Shown(told), have)
			}
		}
	}
}

// TestMeaning: P10.3: of all small trees, and some greater ones.
func TestMeaning(t *testing.T) {
	for n, each := range []int{1, 1, 1, 31} {
		for _, tree := range Around(n, each) {
			fitsAlike(t, tree, "", "a", "xa", "aax", "axab")
		}
	}
}

// TestMeaningOfPatterns: P10.3: of patterns in which what is left out stands among loops and groups.
func TestMeaningOfPatterns(t *testing.T) {
	for _, pattern := range []string{
		"(a|ab)(c|bcd)?", "(|a)+", "(|a)+?", "(|a)*", "(a*)*", "(a*)+", "(?:a*?)*", "(?:a*?)+", "(a*?)*?", "(a|b|)*", "(a|(b)|)+", "((a)|b)*", "(a{0,2}){0,2}", "(a{0,2}?){2}", "(a?){3}", "(a??){1,3}?", "((|a)*|b){2,}", `(\b|a)*`, `(?:(\b)|a)+`, `(\b)*a`, `(?:\b*a)*`, `(^|a){2,}`, "(?:(a){0}b|a)*", "(a|){2,3}?b?", "(a{1,2}|b{0,1}){0,3}", "(?:(a)|(b)){3}", "(?:(a)|(b)){1,}?",
	} {
		fitsAlike(t, read(t, pattern, api.FlagPerl), "", "a", "b", "ab", "ba", "aab", "abcd", "\nab", "aabbaaabab")
	}
}
