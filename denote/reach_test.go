package denote_test

import (
	"slices"
	"strings"
	"testing"

	"martello/api"
	"martello/inputs"
	. "martello/samples"
)

// reach tells of each two places whether a tree fits from the one to the other; it knows of no order, of no groups and of no ways, so that it may be asked of greater texts than the model.
type reach [][]bool

func noReach(n int) reach {
	r := make(reach, n+1)
	for i := range r {
		r[i] = make([]bool, n+1)
	}
	return r
}

// where is what fits from a place to one behind it, so many runes farther.
func where(n, farther int, so func(int) bool) reach {
	r := noReach(n)
	for i := range n + 1 - farther {
		r[i][i+farther] = so(i)
	}
	return r
}

func (r reach) or(s reach) reach {
	both := noReach(len(r) - 1)
	for i := range r {
		for j := range r[i] {
			both[i][j] = r[i][j] || s[i][j]
		}
	}
	return both
}

func (r reach) then(s reach) reach {
	both := noReach(len(r) - 1)
	for i := range r {
		for j := range r[i] {
			if r[i][j] {
				for k := range s[j] {
					both[i][k] = both[i][k] || s[j][k]
				}
			}
		}
	}
	return both
}

// times is one behind the other, from so many up to so many, or any number.
func (r reach) times(least, most int) reach {
	stay := where(len(r)-1, 0, func(int) bool { return true })
	all := stay
	for range least {
		all = all.then(r)
	}
	for i := least; i != most; i++ {
		more := all.or(all.then(r))
		if slices.EqualFunc(more, all, slices.Equal) {
			break
		}
		all = more
	}
	return all
}

// reaches is that of a tree in an input.
func reaches(t api.Tree, in *inputs.Input) reach {
	n := in.Len()
	var kids []reach
	for _, kid := range t.Kids {
		kids = append(kids, reaches(kid, in))
	}
	switch t.Op {
	case api.OpEmpty:
		return where(n, 0, func(int) bool { return true })
	case api.OpRune:
		return where(n, 1, func(i int) bool { return in.Rune(i) == t.Rune })
	case api.OpSet:
		return where(n, 1, func(i int) bool {
			return slices.ContainsFunc(t.Set, func(r api.Range) bool { return r.Lo <= in.Rune(i) && in.Rune(i) <= r.Hi })
		})
	case api.OpAt:
		return where(n, 0, func(i int) bool { return in.At(i)&t.At != 0 })
	case api.OpCap:
		return kids[0]
	case api.OpStar:
		return kids[0].times(0, -1)
	case api.OpPlus:
		return kids[0].times(1, -1)
	case api.OpQuest:
		return kids[0].times(0, 1)
	case api.OpRepeat:
		return kids[0].times(t.Min, t.Max)
	}
	all := noReach(n)
	if t.Op == api.OpCat {
		all = all.times(0, 0)
		for _, kid := range kids {
			all = all.then(kid)
		}
	} else {
		for _, kid := range kids {
			all = all.or(kid)
		}
	}
	return all
}

// endsAll holds the ends of a tree's lists, from each place, against those that there are.
func endsAll(t *testing.T, tree api.Tree, text string) {
	t.Helper()
	in := Made(t, text)
	for at, want := range reaches(tree, in) {
		have := make([]bool, in.Len()+1)
		for _, fit := range listed(t, tree, 2, in, at) {
			have[fit[1]] = true
		}
		if !slices.Equal(have, want) {
			t.Errorf("%s in %q from %d: %v, not %v", Shown(tree), text, at, have, want)
		}
	}
}

// TestReach: D1: the ends are all that there are, in texts with far too many ways to be gone one by one.
func TestReach(t *testing.T) {
	texts := []string{strings.Repeat("a", 40), strings.Repeat("ab", 12) + "c" + strings.Repeat("aab", 5), strings.Repeat("abcd", 7), strings.Repeat("ab\n ba", 5), "\xff" + strings.Repeat("aé\xffb", 8)}
	for _, pattern := range []string{
		"(a*)*", "(a*)+b", "(|a)+", "(?:a*?)*", "(a|ab)*(c|bcd)?", "(?:a|aa|ab|b)*", "(?:(?:a|b)*c?)*", "(?:a{2}|b{1,2}|(?:ab){2,})*", "(?:a{3}|a{5})*", "(?:a{3}|a{5}){2,}?", "(?:aa){0,7}", "((a?){3}b?){2,4}", "(?:(?:a{2,3}){2,3}){1,2}", "(?:a+|b+)+?c", `(?:\b\w+\b|\W)*`, `(?m)(?:^.*$|\n)*`, "(?:[ab]{2})*", "(?:.*b)?.*a", "(?s)(?:.{3})*", "(?:(a*)(b*))*c?", "(?:(?:a??)+?(?:b|)+)*?", "(?:a|b|ab|ba|aab){3,9}", "(?:(?:(?:a?)*b?)+c?)*?d?",
	} {
		for _, text := range texts {
			endsAll(t, Parsed(t, pattern), text)
		}
	}
	for n, each := range []int{1, 1, 23, 1201} {
		for _, tree := range Around(n, each) {
			endsAll(t, tree, "axaab"+strings.Repeat("a", 9)+"xxaa")
		}
	}
}
