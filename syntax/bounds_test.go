package syntax_test

import (
	"strings"
	"testing"

	"martello/api"
	"martello/syntax"
	"martello/trees"
)

// nested is a pattern that stands in so many of these.
func nested(n int, begin, pattern, end string) string {
	return strings.Repeat(begin, n) + pattern + strings.Repeat(end, n)
}

// TestLength: Y1: patterns of 1024 bytes, and of one more, whatever they are.
func TestLength(t *testing.T) {
	for _, s := range []string{"a", "é", "世", "(", ")", "*", "|", "[", `\`, "{", "(?:", "a**", "()", `\.`, "[^a]"} {
		most := strings.Repeat(s, 1024/len(s))
		most += strings.Repeat("1", 1024-len(most))
		for _, f := range []api.Flag{0, api.FlagLit, api.FlagPerl, 63, 33} {
			if _, wrong := syntax.Parse(most, f); wrong.E == api.ErrTooMany {
				t.Errorf("Parse(%.9q.., %d): %+v", most, f, wrong)
			}
			likeModel(t, most, f)
			for _, more := range []string{"1", ")", "é", "\xff", strings.Repeat("1", 70000), strings.Repeat("(", 1000000)} {
				holds(t, most+more, f, whole(api.ErrTooMany, most+more))
			}
		}
	}
	for _, f := range unfolded() {
		holds(t, strings.Repeat("1", 1024), f, tells("cat("+strings.Repeat("1 ", 1023)+"1)"))
		holds(t, strings.Repeat("é", 512), f, tells("cat("+strings.Repeat("#e9 ", 511)+"#e9)"))
		holds(t, strings.Repeat("é", 512)+"1", f, whole(api.ErrTooMany, strings.Repeat("é", 512)+"1"))
		holds(t, strings.Repeat("世", 341)+"1", f, tells("cat("+strings.Repeat("#4e16 ", 341)+"1)"))
		holds(t, strings.Repeat("世", 342), f, whole(api.ErrTooMany, strings.Repeat("世", 342)))
		holds(t, strings.Repeat(`\.`, 512), f, tells("cat("+strings.Repeat(". ", 511)+".)"))
	}
}

// TestDepth: Y1: trees of the greatest depth, and of one more.
func TestDepth(t *testing.T) {
	for _, x := range []struct {
		begin, kid, end string
		each, kids      int // how much deeper a tree is in each; how deep the kid is
	}{
		{"(", "1", ")", 1, 1}, {"(", "12", ")", 1, 2}, {"(", "1|2", ")", 1, 2}, {"(", "", ")", 1, 1}, {"(", "1*", ")", 1, 2}, {"(2", "1", ")", 2, 1}, {"(2|", "1", ")", 2, 1}, {"(", "1", ")*", 2, 1}, {"(?:", "1", ")*", 1, 1}, {"(?:2", "1", ")", 1, 1}, {"(?:2|", "1", ")", 1, 1}, {"(?:2|", "12", ")", 1, 2}, {"(?i:(", "1", "))+", 2, 1}, {"((?s)", "[a]", "){0}?", 2, 1},
	} {
		for n := range 52 {
			for _, f := range anyPerl() {
				s := nested(n, x.begin, x.kid, x.end)
				tree, wrong := syntax.Parse(s, f)
				if depth := x.kids + n*x.each; depth > 50 {
					holds(t, s, f, whole(api.ErrDeep, s))
				} else if wrong.E != api.OK || trees.Depth(tree) != depth {
					t.Fatalf("Parse(%q, %d): of depth %d, %+v; not of %d", s, f, trees.Depth(tree), wrong, depth)
				}
			}
		}
	}
	for _, f := range anyFlags() {
		for _, n := range []int{50, 51, 100, 512} {
			s := nested(n, "(", "", ")")
			holds(t, s, f, whole(api.ErrDeep, s))
		}
	}
	for _, f := range greedyPerl() { // what is no part of the tree makes none deep
		holds(t, nested(250, "(?:", "1", ")"), f, tells("1"))
		holds(t, nested(200, "(?s:", "1", ")"), f, tells("1"))
		holds(t, nested(49, "(", "1", ")"), f, tells(numbered(nested(49, "cap@(", "1", ")"))))
		holds(t, nested(49, "(?:", "1", ")+"), f, tells(nested(49, "plus(", "1", ")")))
		holds(t, nested(50, "(?:", "1", ")+"), f, whole(api.ErrDeep, nested(50, "(?:", "1", ")+")))
		holds(t, "2|"+nested(48, "(", "1", ")"), f, tells(numbered("alt(2 "+nested(48, "cap@(", "1", ")")+")")))
		holds(t, "2|"+nested(49, "(", "1", ")"), f, whole(api.ErrDeep, "2|"+nested(49, "(", "1", ")")))
	}
}

// TestWeight: Y1: trees of the greatest weight, and of one more.
func TestWeight(t *testing.T) {
	for s, weight := range map[string]int{
		"1{1000}2{998}3": 4000, "1{1000}2{998}34": 4001, "1{1000}|2{998}": 4000, "1{1000}|2{998}?": 4000, "1{1000}|2{999}": 4002, "(1{1000})2{997}": 3999, "(1{1000})2{997}3": 4000, "(1{1000})2{997}34": 4001, "1{1000,}2{998}3": 4000, "1{0,1000}2{998}3": 4000, "1{0,1000}2{998}34": 4001, "(12){666}": 3997, "(12){666}34": 4000, "(12){666}345": 4001, "1{1000}2{1000}": 4003, "((1{10}){10}){10}": 2441, "(((1{10}){10}){10}){2}": 4889, "((((1{1000}){1000}){1000}){1000}){1000}": 4001, "1{1000}": 2001, "1{1000}2{998}": 3999, "(1{1000}2{997})": 3999, "(1{1000}2{998})": 4001, "(1{1000}2{997})*": 4000, "(1{1000}2{997})*?": 4000, "(1{1000}2{997})*3": 4002, "(1{1000}2{996})*3": 4000,
	} {
		for _, f := range anyFlags() {
			if f&api.FlagPerl == 0 && strings.Contains(s, "?") {
				continue
			}
			if weight > 4000 {
				holds(t, s, f, whole(api.ErrLarge, s))
			} else if tree, wrong := syntax.Parse(s, f); wrong.E != api.OK || trees.Weight(tree) != weight {
				t.Fatalf("Parse(%q, %d): of weight %d, %+v; not of %d", s, f, trees.Weight(tree), wrong, weight)
			}
		}
	}
	each(t, greedyPerl(), map[string]answer{
		"(?:12){999}34": tells("cat({999,999}(cat(1 2)) 3 4)"), "(?:12){999}345": whole(api.ErrLarge, "(?:12){999}345"), "(?:12){1000}": whole(api.ErrLarge, "(?:12){1000}"), "(?:){1000}1{998}2": tells("cat({1000,1000}(empty) {998,998}(1) 2)"), "(?:1{1000}){0}2{996}3": tells("cat({0,0}({1000,1000}(1)) {996,996}(2) 3)"), "(?:1{1000}){0}2{998}": whole(api.ErrLarge, "(?:1{1000}){0}2{998}"), "(?:1{1000}){0}2{997}": tells("cat({0,0}({1000,1000}(1)) {997,997}(2))"), `[0-9]{1000}\d{998}3`: tells("cat({1000,1000}([30-39]) {998,998}([30-39]) 3)"), "(?i)1{1000}k{998}3": tells("cat({1000,1000}(1) {998,998}([4b-4b 6b-6b 212a-212a]) 3)"),
	})
}

// TestDeepAndLarge: Y1: of what is too deep and too great it is told that it is too deep; what is wrong ahead of the end comes ahead of both.
func TestDeepAndLarge(t *testing.T) {
	deep, large := nested(50, "(", "1", ")"), "1{1000}2{1000}"
	each(t, anyFlags(), map[string]answer{
		deep + large: whole(api.ErrDeep, deep+large), large + deep: whole(api.ErrDeep, large+deep), large + "|" + deep: whole(api.ErrDeep, large+"|"+deep), nested(50, "(", large, ")"): whole(api.ErrDeep, nested(50, "(", large, ")")), nested(40, "(", large, ")"): whole(api.ErrLarge, nested(40, "(", large, ")")),
		deep + ")": whole(api.ErrParen, deep+")"), "(" + deep: whole(api.ErrParen, "("+deep), large + "(": whole(api.ErrParen, large+"("), deep + "**": refuses(api.ErrNested, len(deep), len(deep)+2), large + `\`: refuses(api.ErrTrail, len(large), len(large)+1), deep + "|*": refuses(api.ErrMissing, len(deep)+1, len(deep)+2), large + "|[": refuses(api.ErrBracket, len(large)+1, len(large)+2),
	})
}
