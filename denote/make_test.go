package denote_test

import (
	"math"
	"slices"
	"strconv"
	"strings"
	"testing"

	"martello/api"
	"martello/denote"
	"martello/inputs"
	. "martello/samples"
)

// The calls of the chapter, by their signatures.
var (
	_ func(api.Tree, int, *inputs.Input, int) [][]int             = denote.List
	_ func(api.Tree, int, *inputs.Input, int, bool) ([]int, bool) = denote.Match
	_ func(api.Tree, int, *inputs.Input, int, bool) ([]int, bool) = denote.Find
)

// shown is fits as a text: the end of each, and behind it each group's places, or a point.
func shown(fits [][]int) string {
	var all []string
	for _, fit := range fits {
		text := strconv.Itoa(fit[1])
		for i := 2; i+1 < len(fit); i += 2 {
			if fit[i] == -1 && fit[i+1] == -1 {
				text += " ."
			} else {
				text += " " + strconv.Itoa(fit[i]) + "-" + strconv.Itoa(fit[i+1])
			}
		}
		all = append(all, text)
	}
	return strings.Join(all, ", ")
}

// listed is List of a tree, from a place, held against what is promised of all of them.
func listed(t *testing.T, tree api.Tree, groups int, in *inputs.Input, at int) [][]int {
	t.Helper()
	fits := denote.List(tree, groups, in, at)
	var ends []int
	for _, fit := range fits {
		if len(fit) != 2*groups+2 || fit[0] != at || fit[1] < at || fit[1] > in.Len() || slices.Contains(ends, fit[1]) || !between(fit) {
			t.Fatalf("%.400s from %d: %v", Shown(tree), at, fits)
		}
		ends = append(ends, fit[1])
	}
	return fits
}

// between: does each group of a fit lie in the match, or nowhere?
func between(fit []int) bool {
	for i := 2; i < len(fit); i += 2 {
		begin, end := fit[i], fit[i+1]
		if !(begin == -1 && end == -1 || fit[0] <= begin && begin <= end && end <= fit[1]) {
			return false
		}
	}
	return true
}

// lists holds List of a tree, from a place of a text, against fits as they are shown; and then D2 in that text against List.
func lists(t *testing.T, tree api.Tree, groups int, text string, at int, want string) {
	t.Helper()
	in := Made(t, text)
	if have := shown(listed(t, tree, groups, in, at)); have != want {
		t.Errorf("%.400s in %.40q from %d: %q, not %q", Shown(tree), text, at, have, want)
	}
	finds(t, tree, groups, in)
}

// picked is the fit of a list that Match must tell.
func picked(fits [][]int, longest bool) []int {
	var best []int
	for _, fit := range fits {
		if best == nil || longest && fit[1] > best[1] {
			best = fit
		}
	}
	return best
}

// finds holds Match and Find, from each place and from what is none, in both modes, against List.
func finds(t *testing.T, tree api.Tree, groups int, in *inputs.Input) {
	t.Helper()
	for _, longest := range []bool{false, true} {
		var found []int
		for _, at := range []int{math.MaxInt, in.Len() + 65, in.Len() + 1} {
			same(t, tree, at, nil, longest, "Match", denote.Match, groups, in)
			same(t, tree, at, nil, longest, "Find", denote.Find, groups, in)
		}
		for at := in.Len(); at >= 0; at-- {
			fit := picked(listed(t, tree, groups, in, at), longest)
			same(t, tree, at, fit, longest, "Match", denote.Match, groups, in)
			if fit != nil {
				found = fit
			}
			same(t, tree, at, found, longest, "Find", denote.Find, groups, in)
		}
		for _, at := range []int{-1, -64, math.MinInt} {
			same(t, tree, at, nil, longest, "Match", denote.Match, groups, in)
			same(t, tree, at, found, longest, "Find", denote.Find, groups, in)
		}
	}
}

// same holds one of both calls against the fit that it must tell; nil, if there is none.
func same(t *testing.T, tree api.Tree, at int, want []int, longest bool, name string, call func(api.Tree, int, *inputs.Input, int, bool) ([]int, bool), groups int, in *inputs.Input) {
	t.Helper()
	fit, ok := call(tree, groups, in, at, longest)
	if ok != (want != nil) || !slices.Equal(fit, want) || !ok && len(fit) > 0 {
		t.Fatalf("%s of %.400s in %.40q from %d, longest %t: %v, %t; not %v", name, Shown(tree), in.Bytes(0, in.Len()), at, longest, fit, ok, want)
	}
}

// nothing holds all calls where there is nothing.
func nothing(t *testing.T, tree api.Tree, groups int, in *inputs.Input, at int) {
	t.Helper()
	if fits := denote.List(tree, groups, in, at); len(fits) > 0 {
		t.Errorf("List of %.400s with %d groups from %d: %v", Shown(tree), groups, at, fits)
	}
	for _, longest := range []bool{false, true} {
		if fit, ok := denote.Match(tree, groups, in, at, longest); ok || len(fit) > 0 {
			t.Errorf("Match of %.400s with %d groups from %d: %v, %t", Shown(tree), groups, at, fit, ok)
		}
		if fit, ok := denote.Find(tree, groups, in, at, longest); ok || len(fit) > 0 {
			t.Errorf("Find of %.400s with %d groups from %d: %v, %t", Shown(tree), groups, at, fit, ok)
		}
	}
}
