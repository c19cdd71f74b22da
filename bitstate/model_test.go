package bitstate_test

import (
	"testing"

	"martello/api"
	. "martello/samples"
)

// TestModel: the model itself, of the chapter's examples.
func TestModel(t *testing.T) {
	for _, x := range []struct {
		pattern, text string
		want          int
	}{{"(a*)*b", "aaab", 4}, {"(a|ab)(c|bcd)?", "abcd", 4}, {"a*b", "aaacaab", 7}} {
		for _, longest := range []bool{false, true} {
			walks := walked(ProgOf(t, x.pattern), Made(t, x.text), longest)
			if match := modelFind(walks, question{longest: longest}); match == nil || match[1] != x.want {
				t.Errorf("%q: %v", x.pattern, match)
			}
		}
	}
}

// TestSmall: P16.1: all programs of up to two instructions, and some of three and more, against the words.
func TestSmall(t *testing.T) {
	for i, each := range []int{1, 1, 7, 1201, 300007, 90000011} {
		n := i + 1
		list := Repertoire(n)
		for out := range n {
			list = append(list, Stand(api.AtBegin, out), Stand(api.AtWord, out))
		}
		all, some := 0, 0
		SmallPrograms(n, each, list, func(p api.Prog) {
			for start := range n {
				p.Start = start
				all++
				if asModelled(t, p, "", "ab", "b ba") {
					some++
				}
			}
		})
		if some < all/30 || some == all {
			t.Errorf("%d instructions: %d of %d have a match", n, some, all)
		}
	}
}

// TestRuled: P16.1: programs that hang together by a rule, most of which fork and read, against the words.
func TestRuled(t *testing.T) {
	all, some := 0, 0
	for n := 4; n <= 12; n++ {
		for seed := range 600 {
			all++
			if asModelled(t, Ruled(n, seed), "abcd", "dcbaabcd", "aabbaca", "bdbacdabbdca") {
				some++
			}
		}
	}
	if some < all/5 || some == all {
		t.Errorf("%d of %d have a match", some, all)
	}
}
