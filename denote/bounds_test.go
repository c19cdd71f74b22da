package denote_test

import (
	"slices"
	"strings"
	"testing"

	"martello/api"
	"martello/denote"
	. "martello/samples"
)

// TestAnyDepth: a tree may be deeper than MaxDepth: it need only be shaped.
func TestAnyDepth(t *testing.T) {
	for _, x := range []struct {
		in   func(api.Tree) api.Tree
		want string
	}{
		{Star, "2 ., 1 ., 0 ."}, {Plus, "2 ., 1 ."}, {Quest, "1 ., 0 ."},
		{func(kid api.Tree) api.Tree { return Lazy(Star(kid)) }, "0 ., 1 ., 2 ."}, {func(kid api.Tree) api.Tree { return Lazy(Plus(kid)) }, "1 ., 2 ."}, {func(kid api.Tree) api.Tree { return Lazy(Quest(kid)) }, "0 ., 1 ."},
		{func(kid api.Tree) api.Tree { return Cat(kid) }, "1 ."}, {func(kid api.Tree) api.Tree { return Cat(Empty(), kid, Empty()) }, "1 ."}, {func(kid api.Tree) api.Tree { return Alt(kid) }, "1 ."}, {func(kid api.Tree) api.Tree { return Alt(None(), kid, Letter('a')) }, "1 ."},
		{func(kid api.Tree) api.Tree { return Group(1, "", kid) }, "1 0-1"}, {func(kid api.Tree) api.Tree { return Group(2, "x", kid) }, "1 ."}, {func(kid api.Tree) api.Tree { return Repeat(1, 1, kid) }, "1 ."}, {func(kid api.Tree) api.Tree { return Repeat(0, -1, kid) }, "2 ., 1 ., 0 ."},
	} {
		for _, depth := range []int{49, 50, 51, 1000, 1<<16 - 1} {
			in := Made(t, "aab")
			tree := Nested(depth, Letter('a'), x.in)
			if fits := shown(listed(t, tree, 1, in, 0)); fits != x.want {
				t.Errorf("%.60s, %d deep: %s, not %s", Shown(x.in(Letter('a'))), depth, fits, x.want)
			}
			if depth < 1000 {
				finds(t, tree, 1, in)
			}
		}
	}
}

// TestAnyWeight: a tree may be heavier than MaxWeight, and its copies far more than could be made: those to which no way comes are not.
func TestAnyWeight(t *testing.T) {
	a := Letter('a')
	times := func(least, most int) func(api.Tree) api.Tree {
		return func(kid api.Tree) api.Tree { return Repeat(least, most, kid) }
	}
	for _, x := range []struct {
		tree          api.Tree
		length        int // of the text, all of it the letter
		first, longer int // the ends; -1: none
	}{
		{Cat(slices.Repeat([]api.Tree{a}, 3999)...), 3999, 3999, 3999}, {Cat(slices.Repeat([]api.Tree{a}, 4000)...), 4000, 4000, 4000}, {Cat(slices.Repeat([]api.Tree{a}, 4001)...), 4000, -1, -1}, {Cat(slices.Repeat([]api.Tree{a}, 100000)...), 50, -1, -1}, {Cat(slices.Repeat([]api.Tree{Empty()}, 100000)...), 50, 0, 0},
		{Alt(append(slices.Repeat([]api.Tree{None()}, 5000), a)...), 5, 1, 1}, {Star(Alt(slices.Repeat([]api.Tree{a, Empty()}, 1500)...)), 40, 40, 40},
		{Nested(2, a, times(1000, 1000)), 50, -1, -1}, {Repeat(1000, 1000, Repeat(65, 65, a)), 65000, 65000, 65000}, {Repeat(1000, 1000, Repeat(65, 65, a)), 64999, -1, -1}, {Lazy(Repeat(0, 1000, Repeat(0, 65, a))), 20, 0, 20},
		{Nested(3, a, times(1000, 1000)), 50, -1, -1}, {Nested(70, a, times(1000, 1000)), 50, -1, -1}, {Nested(70, a, times(1000, -1)), 50, -1, -1}, {Nested(3, a, times(1, 1000)), 50, 50, 50}, {Lazy(Nested(70, a, times(1, -1))), 50, 50, 50},
		{Nested(2, Empty(), times(1000, 1000)), 0, 0, 0}, {Nested(2, Quest(a), times(0, 300)), 5, 5, 5}, {Nested(2, Lazy(Quest(a)), times(300, -1)), 5, 0, 5},
	} {
		in := Made(t, strings.Repeat("a", x.length))
		for longest, end := range map[bool]int{false: x.first, true: x.longer} {
			want := []int{0, end}
			if end < 0 {
				want = nil
			}
			same(t, x.tree, 0, want, longest, "Match", denote.Match, 0, in)
			if end >= 0 || x.length <= 100 {
				same(t, x.tree, 0, want, longest, "Find", denote.Find, 0, in)
			}
		}
	}
}

// TestLongTexts: rule P1: texts of MaxText bytes, in which ways are as long as they are, and fail at the last place.
func TestLongTexts(t *testing.T) {
	const n = api.MaxText
	as := strings.Repeat("a", n)
	for _, x := range []struct {
		pattern, text string
		first, longer []int
	}{
		{"a*", as, []int{0, n, -1, -1}, []int{0, n, -1, -1}}, {"a*?", as, []int{0, 0, -1, -1}, []int{0, n, -1, -1}}, {"(a)*", as, []int{0, n, n - 1, n}, []int{0, n, n - 1, n}}, {"(a*)*", as, []int{0, n, 0, n}, []int{0, n, 0, n}}, {"(|a)+", as, []int{0, 0, 0, 0}, []int{0, n, n - 1, n}},
		{"(a*)+b", as, nil, nil}, {"(?:a|aa)+?b", as, nil, nil}, {"(a)*?b", as[1:] + "b", []int{0, n, n - 2, n - 1}, []int{0, n, n - 2, n - 1}}, {"(?:a*)*?(b)", as[1:] + "b", []int{0, n, n - 1, n}, []int{0, n, n - 1, n}}, {"b()", as[1:] + "b", []int{n - 1, n, n, n}, []int{n - 1, n, n, n}}, {"$", as, []int{n, n, -1, -1}, []int{n, n, -1, -1}}, {"^a", "\n" + as[1:], nil, nil},
		{"(?s).*", strings.Repeat("\xff", n), []int{0, n, -1, -1}, []int{0, n, -1, -1}}, {".*", as[1:] + "\n", []int{0, n - 1, -1, -1}, []int{0, n - 1, -1, -1}}, {"(é)+", strings.Repeat("é", n/2), []int{0, n / 2, n/2 - 1, n / 2}, []int{0, n / 2, n/2 - 1, n / 2}},
	} {
		in, tree := Made(t, x.text), Parsed(t, x.pattern)
		same(t, tree, 0, x.first, false, "Find", denote.Find, 1, in)
		same(t, tree, -5, x.longer, true, "Find", denote.Find, 1, in)
	}
	in := Made(t, as)
	for pattern, first := range map[string]int{"a*": n, "a*?": 0, "(?:a|a)*": n, "(?:a??)+?": 0} {
		fits := denote.List(Parsed(t, pattern), 0, in, 0)
		if len(fits) != n+1 || fits[0][1] != first {
			t.Fatalf("%s: %d ends, %v", pattern, len(fits), fits[:1])
		}
		for i, fit := range fits[1:] {
			if step := fit[1] - fits[i][1]; fit[0] != 0 || step != 1 && step != -1 {
				t.Fatalf("%s: %v behind %v", pattern, fit, fits[i])
			}
		}
	}
	turned := Made(t, strings.Repeat("\xff", n)).Turned() // above MaxText
	same(t, Parsed(t, "(.)+"), 0, []int{0, n, n - 1, n}, false, "Match", denote.Match, 1, turned)
	same(t, Parsed(t, "(.)+"), n, nil, false, "Find", denote.Find, 1, turned)
}

// TestLists: many ends, each with as many groups as may be.
func TestLists(t *testing.T) {
	tree := Star(Group(1, "", Alt(Group(api.MaxGroups, "", Letter('a')), Letter('b'))))
	fits := listed(t, tree, api.MaxGroups, Made(t, strings.Repeat("ab", 60)), 0)
	if len(fits) != 121 {
		t.Fatal(len(fits))
	}
	for i, fit := range fits[:119] {
		end := 120 - i
		last := (end - 1) / 2 * 2 // where the last letter a stands
		if fit[1] != end || fit[2] != end-1 || fit[3] != end || fit[4] != -1 || fit[4000] != last || fit[4001] != last+1 {
			t.Errorf("%d: %v", end, fit[:6])
		}
	}
}
