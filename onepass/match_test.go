package onepass_test

import (
	"testing"

	"martello/api"
	. "martello/samples"
)

// fits holds Match of an admitted pattern in a text, in both modes.
func fits(t *testing.T, pattern, text string, first, farthest []int) {
	t.Helper()
	p := ProgOf(t, pattern)
	admits(t, p, true)
	matches(t, p, Made(t, text), false, first)
	matches(t, p, Made(t, text), true, farthest)
}

// bothFit is fits where both modes tell the same.
func bothFit(t *testing.T, pattern, text string, want ...int) {
	t.Helper()
	fits(t, pattern, text, want, want)
}

// TestMatch: H2: runes, groups, repeats, choices, and what a place is.
func TestMatch(t *testing.T) {
	bothFit(t, "^a(b*)c", "abbcd", 0, 4, 1, 3)
	bothFit(t, "^a(b*)c", "acc", 0, 2, 1, 1)
	bothFit(t, "^a(b*)c", "abbd")
	bothFit(t, "^a(b*)c", "xabc")
	bothFit(t, "^a(b*)c", "")
	bothFit(t, "^a", "a", 0, 1)
	bothFit(t, "^a", "aa", 0, 1)
	bothFit(t, "^a", "b")
	bothFit(t, "^", "", 0, 0)
	bothFit(t, "^", "abc", 0, 0)
	bothFit(t, "^$", "", 0, 0)
	bothFit(t, "^$", "a")
	bothFit(t, "^a*$", "aaa", 0, 3)
	bothFit(t, "^a*$", "aab")
	bothFit(t, "$^a", "a")
	bothFit(t, `^\Ba`, "a")
	bothFit(t, `^\ba(\b)( )`, "a b", 0, 2, 1, 1, 1, 2)
	bothFit(t, `^(?m:a$\n)^b`, "a\nb")
	bothFit(t, `^(?m:a$)\n(?m:(^)b)$`, "a\nb", 0, 3, 2, 2)
	bothFit(t, "^(?:a|(b)|c(d))", "cd", 0, 2, -1, -1, 1, 2)
	bothFit(t, "^(?:a|(b)|c(d))", "b", 0, 1, 0, 1, -1, -1)
	bothFit(t, "^(?:a|(b)|c(d))", "a", 0, 1, -1, -1, -1, -1)
	bothFit(t, "^(?:(a)|(b)|c)*d", "abcd", 0, 4, 0, 1, 1, 2)
	bothFit(t, "^(?:(a)|(b)|c)*d", "aabab!")
	bothFit(t, "^((a)|(b))*c", "abac", 0, 4, 2, 3, 2, 3, 1, 2)
	bothFit(t, "^((((a))))b", "ab", 0, 2, 0, 1, 0, 1, 0, 1, 0, 1)
	bothFit(t, "^()()a()", "a", 0, 1, 0, 0, 0, 0, 1, 1)
	bothFit(t, `^[^\x{0}-\x{10ffff}]`, "a")
	bothFit(t, `^(?:a|[^\x{0}-\x{10ffff}])`, "a", 0, 1)
}

// TestModes: H2: first, a match where one stands ahead of the way that reads on ends all; behind it, it stands where nothing farther does. Longest, the farthest.
func TestModes(t *testing.T) {
	bothFit(t, "^a*", "aab", 0, 2)
	fits(t, "^a*?", "aab", []int{0, 0}, []int{0, 2})
	fits(t, "^(?:|a)", "a", []int{0, 0}, []int{0, 1})
	bothFit(t, "^(?:a|)", "a", 0, 1)
	fits(t, "^(a)??", "a", []int{0, 0, -1, -1}, []int{0, 1, 0, 1})
	fits(t, "^(a)+?", "aaa", []int{0, 1, 0, 1}, []int{0, 3, 2, 3})
	bothFit(t, "^(?:(a)(b))*", "ababa", 0, 4, 2, 3, 3, 4) // what the a behind has kept is let go
	fits(t, "^(?:(a)(b))*?", "ababa", []int{0, 0, -1, -1, -1, -1}, []int{0, 4, 2, 3, 3, 4})
	bothFit(t, "^a(?:b(?:c(d)?)?)?", "abcx", 0, 3, -1, -1)
	bothFit(t, "^a(?:bcd)?", "abc", 0, 1)
	fits(t, "^a(?:b(?:c)??)?", "abc", []int{0, 2}, []int{0, 3})
	fits(t, "^a(?:b(?:cd)??)?", "abc", []int{0, 2}, []int{0, 2})
	fits(t, "^(?:a(?:|b)|c)d?", "abd", []int{0, 1}, []int{0, 3})
	bothFit(t, "^a+?b", "aab", 0, 3)
	bothFit(t, "^a*?$", "aa", 0, 2)
	fits(t, "^a*?(?m:$)", "aa\n", []int{0, 2}, []int{0, 2})
}

// TestMatchAhead: H2: a match that stands between two sets: the rune of the one leads farther, that of the other does not.
func TestMatchAhead(t *testing.T) {
	p := Program(Stand(api.AtBegin, 1), Fork(2, 3), Read(5, 'a', 'a'), Fork(4, 6), Keep(2, 5), Match(), Read(5, 'b', 'b'))
	admits(t, p, true)
	bothMatch(t, p, Made(t, "a"), []int{0, 1, -1, -1})
	matches(t, p, Made(t, "b"), false, []int{0, 0, 0, -1})
	matches(t, p, Made(t, "b"), true, []int{0, 1, -1, -1})
	bothMatch(t, p, Made(t, "c"), []int{0, 0, 0, -1})
	bothMatch(t, p, Made(t, ""), []int{0, 0, 0, -1})
}

// TestKept: H2: what a way keeps is its own: not that of a way beside it, or of one that ends; kept twice, the later one.
func TestKept(t *testing.T) {
	// 2 keeps, and fails; 3 keeps nothing, and matches.
	p := Program(Stand(api.AtBegin, 1), Fork(2, 3), Keep(2, 4), Match(), Fail())
	bothMatch(t, p, Made(t, "a"), []int{0, 0, -1, -1})
	p = Program(Stand(api.AtBegin, 1), Fork(2, 3), Keep(2, 4), Keep(3, 5), Read(6, 'a', 'a'), Read(6, 'b', 'b'), Match())
	bothMatch(t, p, Made(t, "a"), []int{0, 1, 0, -1})
	bothMatch(t, p, Made(t, "b"), []int{0, 1, -1, 0})
	p = Program(Stand(api.AtBegin, 1), Keep(2, 2), Keep(2, 3), Read(4, 'a', 'a'), Keep(2, 5), Fork(6, 7), Read(4, 'b', 'b'), Keep(3, 8), Match())
	bothMatch(t, p, Made(t, "abbc"), []int{0, 3, 3, 3})
	bothMatch(t, p, Made(t, "c"), nil)
	// What is kept where the way begins, and behind a condition that holds, or does not.
	p = Program(Keep(2, 1), Stand(api.AtBegin, 2), Fork(3, 4), Stand(api.AtEnd, 5), Read(6, 'a', 'a'), Keep(3, 6), Match())
	bothMatch(t, p, Made(t, ""), []int{0, 0, 0, 0})
	bothMatch(t, p, Made(t, "a"), []int{0, 1, 0, -1})
}

// TestPlaces: H2: each of the six at each place of a text.
func TestPlaces(t *testing.T) {
	const text = "a b\n\nb"
	for _, at := range SixAts() {
		p := Program(Stand(api.AtBegin, 1), Fork(2, 3), Read(1, 0, 0x10ffff), Stand(at, 4), Match())
		admits(t, p, true)
		in := Made(t, text)
		last := 0
		for place := range in.Len() + 1 {
			if in.At(place)&at != 0 {
				last = place
			}
		}
		want := []int{0, last, -1, -1}
		if in.At(last)&at == 0 {
			want = nil
		}
		bothMatch(t, p, in, want)
	}
}

// TestRunes: H2: runes of all lengths, and bytes that are no UTF-8, by their places, not their bytes.
func TestRunes(t *testing.T) {
	bothFit(t, "^é(世+)😀", "é世世😀!", 0, 4, 1, 3)
	bothFit(t, "^\ufffd(\ufffd)a", "\xff\xfea", 0, 3, 1, 2)
	bothFit(t, "^(?i:k)(.)", "\u212a\xff", 0, 2, 1, 2)
	bothFit(t, `^[\x{10000}-\x{10ffff}]*a`, "\U0010ffff\U00010000a", 0, 3)
	bothFit(t, `^[\x{0}a]*b`, "\x00a\x00b", 0, 4)
}

// TestNoRune: H2: behind the last rune no set has one, also that of all runes.
func TestNoRune(t *testing.T) {
	bothFit(t, "^(?s:.)", "")
	bothFit(t, "^(?s:..)", "a")
	bothFit(t, "^(?s:.)*", "ab", 0, 2)
}
