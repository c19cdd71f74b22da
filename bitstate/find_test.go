package bitstate_test

import (
	"math"
	"testing"

	"martello/api"
	. "martello/samples"
)

// fits holds what a pattern's program finds in a text, in both modes.
func fits(t *testing.T, pattern, text string, first, farthest []int) {
	t.Helper()
	p, in := ProgOf(t, pattern), Made(t, text)
	finds(t, p, in, question{}, first)
	finds(t, p, in, question{longest: true}, farthest)
}

// bothFit is fits where both modes tell the same.
func bothFit(t *testing.T, pattern, text string, want ...int) {
	t.Helper()
	fits(t, pattern, text, want, want)
}

// TestExamples: the chapter's table, and what the document's examples of the whole find.
func TestExamples(t *testing.T) {
	bothFit(t, "(a*)*b", "aaab", 0, 4, 0, 3)
	bothFit(t, "(a|ab)(c|bcd)?", "abcd", 0, 4, 0, 1, 1, 4)
	fits(t, "a|ab", "ab", []int{0, 1}, []int{0, 2})
	fits(t, "(|a)+", "aa", []int{0, 0, 0, 0}, []int{0, 2, 1, 2})
	fits(t, "(?:a*?)*", "aa", []int{0, 1}, []int{0, 2})
	bothFit(t, "(a*)+b", "aaaaaaaaaaaaaaaaaaaaaaaaaaaaaa")
	bothFit(t, "(?i)k", "\u212aKk", 0, 1)
	for from, want := range [][]int{{0, 0}, {1, 3}, {2, 3}, {3, 3}, {4, 4}} {
		bothFind(t, ProgOf(t, "a*"), Made(t, "baac"), from, want)
	}
	for from := range 4 {
		bothFind(t, ProgOf(t, `\b`), Made(t, "a b"), from, []int{from, from})
	}
}

// TestFrom: I2: the least place that is not below from, nor below 0; there is none behind all.
func TestFrom(t *testing.T) {
	p, in := ProgOf(t, "a|(b)"), Made(t, "xaxbx")
	for from, want := range map[int][]int{math.MinInt: {1, 2, -1, -1}, math.MinInt32: {1, 2, -1, -1}, -2: {1, 2, -1, -1}, -1: {1, 2, -1, -1}, 0: {1, 2, -1, -1}, 1: {1, 2, -1, -1}, 2: {3, 4, 3, 4}, 3: {3, 4, 3, 4}, 4: nil, 5: nil, 6: nil, 7: nil, math.MaxInt32: nil, math.MaxInt: nil} {
		bothFind(t, p, in, from, want)
	}
	empty, none := ProgOf(t, ""), ProgOf(t, `[^\x{0}-\x{10ffff}]`)
	for from, want := range map[int][]int{math.MinInt: {0, 0}, -1: {0, 0}, 0: {0, 0}, 4: {4, 4}, 5: {5, 5}, 6: nil, math.MaxInt: nil} {
		bothFind(t, empty, in, from, want)
		bothFind(t, none, in, from, nil)
	}
	bothFind(t, empty, Made(t, ""), 0, []int{0, 0})
	bothFind(t, empty, Made(t, ""), 1, nil)
}

// TestAnchored: I2: from the place alone; none, if that is no place.
func TestAnchored(t *testing.T) {
	in := Made(t, "xaxbx")
	anchored := func(pattern string, from int, want []int) {
		t.Helper()
		finds(t, ProgOf(t, pattern), in, question{from, true, false}, want)
		finds(t, ProgOf(t, pattern), in, question{from, true, true}, want)
	}
	for from := -2; from <= 7; from++ {
		anchored("a|(b)", from, map[int][]int{1: {1, 2, -1, -1}, 3: {3, 4, 3, 4}}[from])
		anchored("^x", from, map[int][]int{0: {0, 1}}[from])
		anchored("x$", from, map[int][]int{4: {4, 5}}[from])
		anchored("$", from, map[int][]int{5: {5, 5}}[from])
	}
	for _, from := range []int{math.MinInt, math.MinInt32, -1, 6, math.MaxInt32, math.MaxInt} {
		anchored("", from, nil)
		anchored("x*", from, nil)
	}
	anchored("", 5, []int{5, 5})
}

// TestLeast: I2: the least place wins, though a match from a later one comes farther, or is found sooner.
func TestLeast(t *testing.T) {
	bothFit(t, "(?:a+c|b+)d|b", "aabbbd", 2, 6)
	bothFit(t, "ab|bcdef", "abcdef", 0, 2)
	bothFit(t, "abcx|bcd(e)", "abcde", 1, 5, 4, 5)
	fits(t, "b|ab|abc", "abc", []int{0, 2}, []int{0, 3})
	bothFit(t, "c|(bc)|x*y", "abc", 1, 3, 1, 3)
	bothFit(t, "a*b", "aaacaab", 4, 7)
	bothFit(t, "(?:a|aa)*b", "aaaacaaa")
}

// TestModes: I2: first, the first way; longest, of those that end farthest the first one, with its groups.
func TestModes(t *testing.T) {
	fits(t, "a*?", "aab", []int{0, 0}, []int{0, 2})
	fits(t, "(?:|a)(b)?", "ab", []int{0, 0, -1, -1}, []int{0, 2, 1, 2})
	fits(t, "(a)|(ab)|(abc)", "abc", []int{0, 1, 0, 1, -1, -1, -1, -1}, []int{0, 3, -1, -1, -1, -1, 0, 3})
	fits(t, "(a)|a(b)|(ab)|ab", "abx", []int{0, 1, 0, 1, -1, -1, -1, -1}, []int{0, 2, -1, -1, 1, 2, -1, -1})
	fits(t, "(a)|a(b)|(ab)|ab", "ab", []int{0, 1, 0, 1, -1, -1, -1, -1}, []int{0, 2, -1, -1, 1, 2, -1, -1})
	bothFit(t, "(ab)|a(b)|ab", "ab", 0, 2, 0, 2, -1, -1)
	fits(t, "(a|ab)(c|bcd)(d*)", "abcd", []int{0, 4, 0, 1, 1, 4, 4, 4}, []int{0, 4, 0, 1, 1, 4, 4, 4})
	fits(t, "(a)??(a)??(a)??", "aa", []int{0, 0, -1, -1, -1, -1, -1, -1}, []int{0, 2, -1, -1, 0, 1, 1, 2})
	fits(t, "(a)+?b??", "aab", []int{0, 1, 0, 1}, []int{0, 3, 1, 2})
}

// TestFarther: I2, longest: a match that ends as far as an earlier one is none; one that ends farther is, wherever the way stands.
func TestFarther(t *testing.T) {
	// 0 comes to a match at once, through 3 to one that has kept a place, behind a rune to another one.
	p := Program(Fork(1, 2), Match(), Fork(3, 4), Keep(2, 5), Read(6, 'a', 'a'), Match(), Keep(3, 7), Match())
	finds(t, p, Made(t, "b"), question{}, []int{0, 0, -1, -1})
	finds(t, p, Made(t, "b"), question{longest: true}, []int{0, 0, -1, -1})
	finds(t, p, Made(t, ""), question{longest: true}, []int{0, 0, -1, -1})
	finds(t, p, Made(t, "a"), question{}, []int{0, 0, -1, -1})
	finds(t, p, Made(t, "a"), question{longest: true}, []int{0, 1, -1, 1})
	finds(t, p, Made(t, "ab"), question{longest: true}, []int{0, 1, -1, 1})
	p.Insts[1], p.Insts[3] = p.Insts[3], p.Insts[1]
	finds(t, p, Made(t, "b"), question{longest: true}, []int{0, 0, 0, -1})
	// The farthest is neither the first one nor the last one.
	fits(t, "(ab)|(abc)|(a)", "abcd", []int{0, 2, 0, 2, -1, -1, -1, -1}, []int{0, 3, -1, -1, 0, 3, -1, -1})
	fits(t, "(ab)|(abc)|(a)", "abc", []int{0, 2, 0, 2, -1, -1, -1, -1}, []int{0, 3, -1, -1, 0, 3, -1, -1})
}

// TestKept: I2: what a way keeps is its own: not that of a way that was tried ahead, be it from a place ahead; kept twice, the later one.
func TestKept(t *testing.T) {
	bothFit(t, "(a)(b)c|a(b)(d)|(x)", "abd", 0, 3, -1, -1, -1, -1, 1, 2, 2, 3, -1, -1)
	bothFit(t, "(a)(b)c|(b)(x)|d", "abd", 2, 3, -1, -1, -1, -1, -1, -1, -1, -1)
	bothFit(t, "((a)|(b))*c", "abac", 0, 4, 2, 3, 2, 3, 1, 2)
	bothFit(t, "(?:(a)|(b)|ab(c))*d", "abcabd", 0, 6, 3, 4, 4, 5, 2, 3)
	bothFit(t, "(?:(a)|(b)|ab(c))*d", "abxabd", 3, 6, 3, 4, 4, 5, -1, -1)
	bothFit(t, "(?:(a)(b))*", "ababa", 0, 4, 2, 3, 3, 4)
	bothFit(t, "(?:(a)|b)*?c", "bac", 0, 3, 1, 2)
	bothFit(t, "(a*)(a*)(a*)b", "aab", 0, 3, 0, 2, 2, 2, 2, 2)
	// Kept, and kept again on the same way, once or twice; then taken back to just what it was.
	p := Program(Keep(2, 1), Fork(2, 5), Keep(2, 3), Read(4, 'a', 'a'), Read(6, 'b', 'b'), Read(7, 'a', 'a'), Match(), Keep(2, 8), Fork(9, 6), Keep(2, 10), Fail())
	bothFind(t, p, Made(t, "ab"), 0, []int{0, 2, 0, -1})
	bothFind(t, p, Made(t, "ac"), 0, []int{0, 1, 1, -1})
	bothFind(t, p, Made(t, "xxac"), 0, []int{2, 3, 3, -1})
	// 2 keeps, and fails; 3 keeps nothing, and matches.
	p = Program(Fork(1, 2), Keep(2, 3), Match(), Keep(3, 4), Fail())
	bothFind(t, p, Made(t, "a"), 0, []int{0, 0, -1, -1})
}

// TestMet: I2: each instruction is come to once at each place, the first time: also in rings, by rows of ways that lead to the same.
func TestMet(t *testing.T) {
	for _, ring := range []api.Inst{Fork(0, 0), Fork(0, 1), Fork(1, 0), Keep(2, 0), Stand(api.AtBegin, 0), Stand(api.AtNoWord, 0)} {
		p := Program(ring, Match())
		want := []int{0, 0, -1, -1}
		if ring.Op != api.InstAlt || ring.Arg == ring.Out {
			want = nil
		}
		bothFind(t, p, Made(t, "ab"), 0, want)
	}
	// 3 is come to with 2 kept first, and never again without.
	p := Program(Fork(1, 2), Keep(2, 3), Keep(3, 3), Read(4, 'a', 'a'), Match())
	bothFind(t, p, Made(t, "a"), 0, []int{0, 1, 0, -1})
	bothFind(t, p, Made(t, "xa"), 0, []int{1, 2, 1, -1})
	p = Program(Fork(2, 1), Keep(2, 3), Keep(3, 3), Read(4, 'a', 'a'), Match())
	bothFind(t, p, Made(t, "xa"), 0, []int{1, 2, -1, 1})
	p = Program(Fork(1, 0), Read(0, 'a', 'a'))
	bothFind(t, p, Made(t, "aaa"), 0, nil)
}

// TestPlaces: I2: each of the six at each place of a text.
func TestPlaces(t *testing.T) {
	const text = "a b\n\nb"
	in := Made(t, text)
	for _, at := range SixAts() {
		p := Program(Stand(at, 1), Match())
		for from := range in.Len() + 1 {
			want := []int(nil)
			if in.At(from)&at != 0 {
				want = []int{from, from, -1, -1}
			}
			finds(t, p, in, question{from, true, false}, want)
			finds(t, p, in, question{from, true, true}, want)
		}
	}
	bothFit(t, "^b", "ab")
	bothFit(t, "(?m:^)b", "a\nb", 2, 3)
	bothFit(t, "a$", "ab\na", 3, 4)
	bothFit(t, "a(?m:$)", "aba\nb", 2, 3)
	bothFit(t, `\bb\b`, "ab b", 3, 4)
	bothFit(t, `\Bb\B`, "b bb abc", 6, 7)
}

// TestRead: I2: runes of all lengths, and bytes that are no UTF-8, by their places, not their bytes; sets at their ends.
func TestRead(t *testing.T) {
	bothFit(t, "é(世+)😀", "xé世世😀!", 1, 5, 2, 4)
	bothFit(t, "\ufffd(\ufffd)a", "a\xff\xfea", 1, 4, 2, 3)
	bothFit(t, `[\x{10000}-\x{10ffff}]+a`, "a\U0010ffff\U00010000a", 1, 4)
	bothFit(t, `[\x{0}a]*b`, "\x00a\x00b", 0, 4)
	p := Program(Read(1, 'b', 'd', 'f', 'f', 'h', 'k', 0x10ffff, 0x10ffff), Match())
	for _, c := range "abcdefghijkl\x00\U0010fffe\U0010ffff" {
		want := []int{0, 1, -1, -1}
		switch c {
		case 'a', 'e', 'g', 'l', 0, 0x10fffe:
			want = nil
		}
		bothFind(t, p, Made(t, string(c)), 0, want)
	}
}

// TestNoRune: I2: behind the last rune no set has one, also that of all runes.
func TestNoRune(t *testing.T) {
	bothFit(t, "(?s:.)", "")
	bothFit(t, "(?s:..)", "a")
	bothFit(t, "(?s:.)*", "ab", 0, 2)
	bothFit(t, "(?s:.)*?$", "ab", 0, 2)
	bothFind(t, ProgOf(t, "(?s:.)"), Made(t, "ab"), 2, nil)
}

// TestStart: I2: the walk begins at Start, wherever it stands.
func TestStart(t *testing.T) {
	p := Program(Match(), Read(0, 'a', 'a'), Read(1, 'b', 'b'), Fail())
	for start, want := range [][]int{{0, 0, -1, -1}, {2, 3, -1, -1}, {1, 3, -1, -1}, nil} {
		p.Start = start
		bothFind(t, p, Made(t, "xba"), 0, want)
	}
}

// TestNothingTried: I2: where no place is tried, no steps are taken; where some are, and there is no match, some are.
func TestNothingTried(t *testing.T) {
	p, in := ProgOf(t, "b"), Made(t, "aaa")
	for _, q := range []question{{from: 4}, {from: math.MaxInt}, {-1, true, false}, {4, true, true}} {
		if _, _, steps := used.Find(p, in, q.from, q.anchored, q.longest); steps != 0 {
			t.Errorf("%+v: %d steps", q, steps)
		}
	}
	for from := range 4 {
		for _, q := range questions(from) {
			if _, is, steps := used.Find(p, in, q.from, q.anchored, q.longest); is || steps == 0 {
				t.Errorf("%+v: %t, %d steps", q, is, steps)
			}
		}
	}
}
