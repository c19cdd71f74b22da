package denote_test

import (
	"math"
	"slices"
	"strings"
	"testing"

	"martello/denote"
	. "martello/samples"
)

// TestMatch: D2: the first fit, or the one that ends farthest, and of that the first way's groups.
func TestMatch(t *testing.T) {
	for _, x := range []struct {
		pattern       string
		groups        int
		text          string
		at            int
		first, longer []int // nil: none
	}{
		{"a*", 0, "aab", 0, []int{0, 2}, []int{0, 2}},
		{"a*?", 0, "aab", 0, []int{0, 0}, []int{0, 2}},
		{"a*?", 0, "aab", 3, []int{3, 3}, []int{3, 3}},
		{"a|ab|abc", 0, "xabcd", 1, []int{1, 2}, []int{1, 4}},
		{"abc|a|ab", 0, "abd", 0, []int{0, 1}, []int{0, 2}},
		{"ab", 0, "aab", 0, nil, nil},
		{"(?:)", 0, "", 0, []int{0, 0}, []int{0, 0}},
		{"(a|ab)(c|bcd)?", 2, "abcd", 0, []int{0, 4, 0, 1, 1, 4}, []int{0, 4, 0, 1, 1, 4}},
		{"(a|ab)(c|bcd)?", 2, "abce", 0, []int{0, 1, 0, 1, -1, -1}, []int{0, 3, 0, 2, 2, 3}},
		{"(|a)+", 1, "aa", 0, []int{0, 0, 0, 0}, []int{0, 2, 1, 2}},
		{"(a*?)(a*)", 2, "aa", 0, []int{0, 2, 0, 0, 0, 2}, []int{0, 2, 0, 0, 0, 2}},
		{"(a)??(a)??b?", 2, "aab", 0, []int{0, 0, -1, -1, -1, -1}, []int{0, 3, 0, 1, 1, 2}},
		{"(a|b)*?(b)?", 2, "ab", 0, []int{0, 0, -1, -1, -1, -1}, []int{0, 2, 0, 1, 1, 2}},
		{"a(b)|(a)b", 2, "ab", 0, []int{0, 2, 1, 2, -1, -1}, []int{0, 2, 1, 2, -1, -1}},
	} {
		in := Made(t, x.text)
		for longest, want := range map[bool][]int{false: x.first, true: x.longer} {
			same(t, Parsed(t, x.pattern), x.at, want, longest, "Match", denote.Match, x.groups, in)
		}
		finds(t, Parsed(t, x.pattern), x.groups, in)
	}
}

// TestFind: D2: the least place that is not below the given one, nor below 0, from which there is a match; and the match from there, though one from farther behind may be longer.
func TestFind(t *testing.T) {
	for _, x := range []struct {
		pattern, text string
		from          int
		first, longer []int
	}{
		{"b", "abab", math.MinInt, []int{1, 2}, []int{1, 2}}, {"b", "abab", -1, []int{1, 2}, []int{1, 2}}, {"b", "abab", 0, []int{1, 2}, []int{1, 2}}, {"b", "abab", 1, []int{1, 2}, []int{1, 2}}, {"b", "abab", 2, []int{3, 4}, []int{3, 4}}, {"b", "abab", 3, []int{3, 4}, []int{3, 4}}, {"b", "abab", 4, nil, nil}, {"b", "abab", 5, nil, nil}, {"b", "abab", math.MaxInt, nil, nil},
		{"", "ab", -7, []int{0, 0}, []int{0, 0}}, {"", "ab", 1, []int{1, 1}, []int{1, 1}}, {"", "ab", 2, []int{2, 2}, []int{2, 2}}, {"", "ab", 3, nil, nil}, {"", "", 0, []int{0, 0}, []int{0, 0}}, {"", "", 1, nil, nil},
		{"a|aab", "xaab", 0, []int{1, 2}, []int{1, 4}}, {"ab|b*", "xabb", 0, []int{0, 0}, []int{0, 0}}, {"ab|b+", "xabb", 0, []int{1, 3}, []int{1, 3}}, {"ab|b+", "xabb", 2, []int{2, 4}, []int{2, 4}},
		{"a+b", "aacaab", 0, []int{3, 6}, []int{3, 6}}, {"a+b", "aacaab", 4, []int{4, 6}, []int{4, 6}}, {"a+b", "aacaab", 5, nil, nil},
		{"(?:a*)*b", "aacab", 0, []int{3, 5}, []int{3, 5}}, {"(?:a*?)+?b", "aacab", 0, []int{3, 5}, []int{3, 5}}, {"(?:a|aa)+c", "aaabac", 0, []int{4, 6}, []int{4, 6}},
		{"$", "a\nb", 0, []int{3, 3}, []int{3, 3}}, {"(?m)$", "a\nb", 0, []int{1, 1}, []int{1, 1}}, {"(?m)^", "a\nb", 1, []int{2, 2}, []int{2, 2}}, {"^", "a\nb", 1, nil, nil}, {`\Bb`, "b bb", 0, []int{3, 4}, []int{3, 4}},
		{`[^\x{0}-\x{10ffff}]`, "ab", 0, nil, nil}, {".", "\n\xff", 0, []int{1, 2}, []int{1, 2}},
	} {
		in, tree := Made(t, x.text), Parsed(t, x.pattern)
		for longest, want := range map[bool][]int{false: x.first, true: x.longer} {
			same(t, tree, x.from, want, longest, "Find", denote.Find, 0, in)
		}
		finds(t, tree, 0, in)
	}
}

// TestFindGroups: D2: groups that ways from the places ahead came to are not those of the match.
func TestFindGroups(t *testing.T) {
	for _, x := range []struct {
		pattern, text string
		want          []int
	}{
		{"(a)x|(b)|(c)*d", "acb", []int{2, 3, -1, -1, 2, 3, -1, -1}},
		{"(a)+(b)+c|(d)", "aabd", []int{3, 4, -1, -1, -1, -1, 3, 4}},
		{"(?:(a)|(b)|(c))+d", "abxcd", []int{3, 5, -1, -1, -1, -1, 3, 4}},
		{"(a*)*(b*)*(c*)*d", "aabbxccd", []int{5, 8, -1, -1, -1, -1, 5, 7}},
	} {
		in, tree := Made(t, x.text), Parsed(t, x.pattern)
		for _, longest := range []bool{false, true} {
			same(t, tree, 0, x.want, longest, "Find", denote.Find, 3, in)
		}
		finds(t, tree, 3, in)
	}
}

// TestFindAll: D2: in greater texts, from each place, against what is listed there.
func TestFindAll(t *testing.T) {
	for _, pattern := range []string{"(a|ab)(c|bcd)?", "(a*)+b", "(?:a*?)*c", "(|a)+b", "((a)|b)*c", `\b(\w+)\b`, "(?m)^(.*)$", "(?m)(?:^|x)*(a)??$", "(a{2}|b{1,2}){2}", "[^ab]*(a)", "(?:a+b?)+?c"} {
		for _, text := range []string{"abcdabcd", strings.Repeat("aab", 7) + "c" + strings.Repeat("a", 9) + "b", "ab ba\nabc\n\ncab", strings.Repeat("a", 40), "\xffab\xffaabb\xff", "baacab\n"} {
			finds(t, Parsed(t, pattern), 2, Made(t, text))
		}
	}
}

// TestSteps: rule P1: what goes wrong after many ways is told soon; each part is gone on from once at each place.
func TestSteps(t *testing.T) {
	as := Made(t, strings.Repeat("a", 30))
	for _, pattern := range []string{"(a*)+b", "(?:a*)*b", "(?:a|a)*b", "(?:a|aa)+b", "(?:(?:a*)*)*b", "(?:a+)+b", "(?:a?){30}a{31}", "(?:(?:a*?)+?)+?b", "(a|a|a|a)*(?:a|a)*b", "(?:a{0,30}){0,30}b", "(?:aa?a??){1,30}b", "(?:|a|a)+b"} {
		tree := Parsed(t, pattern)
		for at := range 31 {
			if fits := denote.List(tree, 1, as, at); len(fits) > 0 {
				t.Errorf("%s from %d: %v", pattern, at, fits)
			}
		}
		same(t, tree, 0, nil, true, "Find", denote.Find, 1, as)
		some := Made(t, strings.Repeat("a", 30)+"b")
		if strings.HasSuffix(pattern, "b") {
			same(t, tree, 0, []int{0, 31}, false, "Find", denote.Find, 0, some)
		}
	}
	tree := Parsed(t, "(?:a|aa|aaa)*")
	fits := denote.List(tree, 0, Made(t, strings.Repeat("a", 500)), 0)
	if len(fits) != 501 || !slices.Equal(fits[0], []int{0, 500}) {
		t.Errorf("%d ends, %v", len(fits), fits[:1])
	}
}
