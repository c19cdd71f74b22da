package prefix_test

import (
	"slices"
	"testing"

	"martello/api"
	"martello/denote"
	"martello/inputs"
	"martello/prefix"
	. "martello/samples"
	"martello/simplify"
)

// between are the runes of an input between two places.
func between(in *inputs.Input, from, to int) []rune {
	var l []rune
	for i := from; i < to; i++ {
		l = append(l, in.Rune(i))
	}
	return l
}

// fits holds P14.2 of a tree in texts: all that it fits begins with its prefix, and if that is exact, it fits just that, wherever it stands. It tells how often the tree fits.
func fits(t *testing.T, tree api.Tree, texts ...string) (n int) {
	t.Helper()
	l, exact := prefix.Prefix(tree)
	for _, text := range texts {
		in := Made(t, text)
		for at := range in.Len() + 1 {
			list := denote.List(tree, 0, in, at)
			n += len(list)
			for _, fit := range list {
				whole := between(in, fit[0], fit[1])
				if len(whole) < len(l) || !slices.Equal(whole[:len(l)], l) || exact && len(whole) > len(l) {
					t.Errorf("%s in %q from %d: fits %q; its prefix is %q, %t", brief(tree), text, at, whole, l, exact)
				}
			}
			if stand := prefix.Index(in, l, at) == at; exact && stand != (len(list) == 1) || !stand && len(list) > 0 {
				t.Errorf("%s in %q from %d: fits %d times; its prefix is %q, %t", brief(tree), text, at, len(list), l, exact)
			}
		}
	}
	return n
}

// bothFit is fits of a right tree, and of it made plain, in texts with the prefix in them, too.
func bothFit(t *testing.T, tree api.Tree, texts ...string) (n int) {
	t.Helper()
	l, _ := prefix.Prefix(tree)
	if s := string(l); len(s) < 100 {
		texts = append(texts, s, s+s+"a", "x"+s+"b"+s)
	}
	return fits(t, tree, texts...) + fits(t, simplify.Simple(tree), texts...)
}

// TestMeaning: P14.2: of small trees, each Op in each other one.
func TestMeaning(t *testing.T) {
	n := 0
	for around, each := range []int{1, 1, 1, 41} {
		for _, tree := range Around(around, each) {
			n += bothFit(t, tree, "", "xa", "aaxab", "a\nxa\xff")
		}
	}
	if n < 10000 {
		t.Errorf("trees fit %d times", n)
	}
}

// TestMeaningOfPatterns: P14.2: of patterns of each kind.
func TestMeaningOfPatterns(t *testing.T) {
	n := 0
	for _, tree := range PatternTrees() {
		n += bothFit(t, tree, "", "aba", "abcdab", "kK\u212a.b\n\xff", "aab\nba")
	}
	if n < 10000 {
		t.Errorf("patterns fit %d times", n)
	}
}

// TestMeaningOfBytes: P14.2: a byte that is no UTF-8 is read as U+FFFD, so that what begins with that begins with the byte; what has no UTF-8 stands nowhere.
func TestMeaningOfBytes(t *testing.T) {
	sign := Letter(0xfffd)
	if fits(t, Cat(sign, sign), "\xff\xfe", "\xff\ufffd", "\ufffd\ufffd", "\xed\xa0\x80") != 5 {
		t.Error("U+FFFD does not fit")
	}
	if fits(t, Cat(Letter('a'), Letter(0xd800)), "a\xed\xa0\x80", "a\ufffd") != 0 {
		t.Error("D800 fits")
	}
}

// TestMeaningOfGroups: P14.2: of groups with any numbers.
func TestMeaningOfGroups(t *testing.T) {
	for _, tree := range Misnumbered() {
		if fits(t, tree, "aaaa", "ba", "aab") == 0 {
			t.Error(brief(tree))
		}
	}
}
