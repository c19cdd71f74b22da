package onepass_test

import (
	"testing"

	"martello/api"
	. "martello/samples"
)

// TestPatterns: H1: patterns that are admitted, and such that are not: as one comes to something twice (0), as sets have a rune in common (1), as they are not anchored (2).
func TestPatterns(t *testing.T) {
	for _, pattern := range []string{
		"^", "^$", "^(?:)", `\Aa`, "^a", "^abc", "^aaa", "^(a)(b)(c)", "^((a)b)", "(^a)", "(^)a", "^^a", `^\ba`, `\b^a`, "$^", "^a^b",
		"^a|^b", "(?:^a|^b)c", "^(?:a|b)", "^(?:a|b|cd)e", "^(a|(b)|[c-e])", "^(?:ab|cd)*", "^(?:|a)", "^(?:a|)", "^(?:a|)(?:b|)",
		"^a*", "^a+", "^a?", "^a*?", "^a+?", "^a??", "^a*b", "^a+b", "^a?b", "^a*?b", "^(?:a|b)*c", "^(a|b)+?c", "^(?:a*b)*c", "^a{3}", "^a{2,4}b", "^a*$", "^[a-c]*[d-f]", "^[^x]*x", "^(?s:.)*$", `^.*\n`, "^(?i:k)(?i:s)", "^(?:a(?:b(?:c)?)?)?d",
		`^[^\x{0}-\x{10ffff}]`, `[^\x{0}-\x{10ffff}]`, `(?:^a|[^\x{0}-\x{10ffff}])`,
	} {
		p := ProgOf(t, pattern)
		admits(t, p, true)
	}
	for _, patterns := range [][]string{
		{"^(?:|)", "^(?:a|)(?:|)", "^(?:^|$)a", `^(?:\b|\B)a`, "^(a*)*", "^(?:a*|b)*c", "^(a?)*b", "^(?:a|(b)?)*", "^(?:a?b?)*", "^(?:a|$)*", "^a(?:|b|)", "(?:^|^)a", "^(?:^|a)*", "^(|a)+"},
		{"^a*a", "^(?:a|ab)", "^(?:a|a)", "^a|^a", "^(?:ab|ac)", "^[ab]*[bc]", "^(?:[a-c]|c)", "^(?:c|[a-c])", "^(?:[a-cx]|[dx])", "^.*a", "^(?i:k)*K", "^(a|b|[^a])", "^(?:a*b)*b?", "^x(?:a|ab)", "^a?a", "^a{2,4}a", "^(?s:.)*(?s:.)$", "^(?:$a|a)"},
		{"", "a", "a^", "a|b", "^a|b", "a|^b", "(?:^|a)b", "a?^b", "(?:a|)^b", "(?m:^)a", "(?m:^a)", "$", "$a", `\b`, `\Ba`, "()", "a*", "^*a", "^?a", "(?:^a)?", "(?:^a)*"},
	} {
		for _, pattern := range patterns {
			p := ProgOf(t, pattern)
			admits(t, p, false)
		}
	}
}

// TestTwice: H1: an instruction of each Op to which one comes by two ways, or by a ring; and another one like it in its place.
func TestTwice(t *testing.T) {
	begin := Stand(api.AtBegin, 1)
	for _, inst := range []api.Inst{Match(), Fail(), Read(4, 'a', 'a'), Fork(4, 5), Keep(2, 4), Stand(api.AtEnd, 4)} {
		other := inst
		if inst.Op == api.InstFail || inst.Op == api.InstMatch {
			other = Fail()
		} else if other.Out = 6; other.Op == api.InstSet {
			other.Set = Ranges('b', 'b')
		} else if other.Op == api.InstAlt {
			other.Arg = 7
		}
		for _, way := range []api.Inst{Fail(), Keep(3, 2), Stand(api.AtWord, 2)} {
			// 1 leads to 2 at once, and through 3 again; or to 8 in its place.
			way.Out = min(way.Out, 2)
			p := Program(begin, Fork(2, 3), inst, way, Fail(), Fail(), Fail(), Fail(), other)
			admits(t, p, way.Op == api.InstFail)
			if way.Op != api.InstFail {
				p.Insts[3].Out = 8
				admits(t, p, true)
			}
		}
		admits(t, Program(begin, Fork(2, 2), inst, Fail(), Fail(), Fail()), false)
		admits(t, Program(begin, Fork(2, 6), inst, Fail(), Fail(), Fail(), Fork(3, 2)), false)
	}
	for _, ring := range []api.Inst{Fork(1, 2), Fork(2, 1), Fork(1, 1), Keep(2, 1), Stand(api.AtEnd, 1), Stand(api.AtBegin, 1), Keep(2, 0), Stand(api.AtWord, 0), Fork(0, 2), Fork(2, 0)} {
		admits(t, Program(begin, ring, Fail()), false)
	}
	admits(t, Program(begin, Read(1, 'a', 'a')), true) // a ring of runes is none
	admits(t, Program(begin, Read(0, 'a', 'a')), true)
}

// TestMatches: H1: one InstMatch at most to which one comes without reading, though conditions keep them apart; behind runes each has its own.
func TestMatches(t *testing.T) {
	begin := Stand(api.AtBegin, 1)
	admits(t, Program(begin, Fork(2, 3), Match(), Match()), false)
	admits(t, Program(begin, Fork(2, 3), Stand(api.AtEnd, 4), Stand(api.AtWord, 5), Match(), Match()), false)
	admits(t, Program(begin, Fork(2, 3), Stand(api.AtEnd, 4), Keep(2, 4), Match()), false)
	admits(t, Program(begin, Fork(2, 3), Match(), Fail(), Match()), true)
	admits(t, Program(begin, Fork(2, 3), Match(), Read(4, 'a', 'a'), Match()), true)
	admits(t, Program(begin, Fork(2, 3), Read(4, 'a', 'a'), Read(5, 'b', 'b'), Match(), Match()), true)
	admits(t, Program(begin, Fork(2, 3), Read(4, 'a', 'a'), Read(4, 'b', 'b'), Match()), true)
	admits(t, Program(begin, Read(2, 'a', 'a'), Fork(3, 4), Match(), Match()), false)
}

// TestSets: H1: sets that have a rune in common, or just none: at their ends, between, at the ends of all runes; the first and the last of three.
func TestSets(t *testing.T) {
	two := func(a, b []api.Range) api.Prog {
		return Program(Stand(api.AtBegin, 1), Fork(2, 3), api.Inst{Op: api.InstSet, Set: a, Out: 4}, api.Inst{Op: api.InstSet, Set: b, Out: 4}, Match())
	}
	for _, x := range []struct {
		a, b []api.Range
		want bool
	}{
		{Ranges('a', 'a'), Ranges('a', 'a'), false}, {Ranges('a', 'a'), Ranges('b', 'b'), true}, {Ranges('a', 'c'), Ranges('c', 'e'), false}, {Ranges('a', 'b'), Ranges('c', 'e'), true}, {Ranges('a', 'z'), Ranges('k', 'k'), false}, {Ranges('a', 'j', 'l', 'z'), Ranges('k', 'k'), true},
		{Ranges('a', 'c', 'x', 'z'), Ranges('d', 'w'), true}, {Ranges('a', 'c', 'x', 'z'), Ranges('d', 'x'), false}, {Ranges('a', 'c', 'x', 'z'), Ranges('c', 'w'), false}, {Ranges('a', 'b', 'e', 'f', 'i', 'j'), Ranges('c', 'd', 'g', 'h', 'k', 'l'), true}, {Ranges('a', 'b', 'e', 'f', 'i', 'k'), Ranges('c', 'd', 'g', 'h', 'k', 'l'), false},
		{Ranges(0, 0), Ranges(1, 0x10ffff), true}, {Ranges(0, 0), Ranges(0, 0x10ffff), false}, {Ranges(0x10ffff, 0x10ffff), Ranges(0, 0x10fffe), true}, {Ranges(0x10ffff, 0x10ffff), Ranges(5, 5, 0x10ffff, 0x10ffff), false}, {Ranges(0xd800, 0xdfff), Ranges(0, 0xd7ff, 0xe000, 0x10ffff), true},
	} {
		admits(t, two(x.a, x.b), x.want)
		admits(t, two(x.b, x.a), x.want)
	}
	three := func(a, b, c rune) api.Prog {
		return Program(Stand(api.AtBegin, 1), Fork(2, 3), Read(6, a, a), Fork(4, 5), Read(6, b, b), Read(6, c, c), Match())
	}
	admits(t, three('a', 'b', 'c'), true)
	for _, x := range []string{"aab", "aba", "baa", "aaa"} {
		admits(t, three(rune(x[0]), rune(x[1]), rune(x[2])), false)
	}
}

// TestConditions: H1: ways are gone whatever the places are: conditions that never hold keep nothing apart.
func TestConditions(t *testing.T) {
	for _, a := range SixAts() {
		for _, b := range SixAts() {
			admits(t, Program(Stand(api.AtBegin, 1), Fork(2, 3), Stand(a, 4), Stand(b, 4), Read(5, 'a', 'a'), Match()), false)
			admits(t, Program(Stand(api.AtBegin, 1), Fork(2, 3), Stand(a, 4), Stand(b, 5), Read(6, 'a', 'a'), Read(6, 'a', 'b'), Match()), false)
			admits(t, Program(Stand(api.AtBegin, 1), Fork(2, 3), Stand(a, 4), Stand(b, 5), Read(6, 'a', 'a'), Read(6, 'b', 'b'), Match()), true)
		}
	}
}

// TestAnchored: H1: of the six AtBegin alone anchors, where it stands on each way from Start; what stands behind it, or behind a rune, need not.
func TestAnchored(t *testing.T) {
	for _, at := range SixAts() {
		is := at == api.AtBegin
		admits(t, Program(Stand(at, 1), Match()), is)
		admits(t, Program(Stand(at, 1), Read(2, 'a', 'a'), Match()), is)
		admits(t, Program(Stand(at, 1), Fail()), true) // nothing is come to that reads, or matches
		admits(t, Program(Stand(at, 1), Stand(api.AtBegin, 2), Match()), true)
		admits(t, Program(Stand(api.AtBegin, 1), Stand(at, 2), Match()), true)
		admits(t, Program(Fork(1, 2), Stand(api.AtBegin, 3), Stand(at, 4), Read(5, 'a', 'a'), Read(5, 'b', 'b'), Match()), is)
		admits(t, Program(Fork(2, 1), Stand(api.AtBegin, 3), Stand(at, 4), Read(5, 'a', 'a'), Read(5, 'b', 'b'), Match()), is)
		admits(t, Program(Keep(2, 1), Stand(at, 2), Match()), is)
	}
	admits(t, Program(Match()), false)
	admits(t, Program(Fail()), true)
	admits(t, Program(Read(0, 'a', 'a')), false)
	admits(t, Program(Read(1, 'a', 'a'), Stand(api.AtBegin, 2), Match()), false)
	admits(t, Program(Keep(2, 1), Fail()), true)
	admits(t, Program(Fork(1, 2), Fail(), Fail()), true)
	admits(t, Program(Fork(1, 1), Fail()), false)
	admits(t, Program(Fork(1, 2), Fail(), Match()), false)
}

// TestStart: H1: ways are gone from Start, wherever it stands; what is not come to may be anything.
func TestStart(t *testing.T) {
	bad := []api.Inst{Fork(0, 0), Match(), Fork(1, 1), Fork(4, 5), Read(6, 'a', 'b'), Read(6, 'b', 'c'), Match()}
	for start := range bad {
		p := Program(bad...)
		p.Start = start
		admits(t, behindBegin(p), start == 1 || start > 3)
		p.Insts = append(p.Insts, Stand(api.AtBegin, 8), Read(9, 'a', 'b'), Match())
		p.Start = 7
		admits(t, p, true)
		p.Insts[8].Out = start
		admits(t, p, start == 1 || start > 3) // behind a rune
		p.Insts[9] = Read(start, 'x', 'y')
		p.Insts[8].Out = 9
		admits(t, p, start == 1 || start > 3) // behind two
	}
}

// TestComeToAgain: H1: ways that begin at several places may come to the same: each is asked by itself.
func TestComeToAgain(t *testing.T) {
	admits(t, Program(Stand(api.AtBegin, 1), Fork(2, 3), Read(1, 'a', 'a'), Read(4, 'b', 'b'), Fork(5, 6), Match(), Read(1, 'c', 'c')), true)
	// Behind a, 4 leads to what is fine from 1, and to another set of b.
	admits(t, Program(Stand(api.AtBegin, 1), Fork(2, 3), Read(4, 'a', 'a'), Read(1, 'b', 'b'), Fork(1, 5), Read(1, 'b', 'c')), false)
	admits(t, Program(Stand(api.AtBegin, 1), Fork(2, 3), Read(4, 'a', 'a'), Read(1, 'b', 'b'), Fork(1, 5), Read(1, 'c', 'c')), true)
	admits(t, Program(Stand(api.AtBegin, 1), Fork(2, 3), Read(4, 'a', 'a'), Match(), Fork(1, 5), Match()), false)
	admits(t, Program(Stand(api.AtBegin, 1), Fork(2, 3), Read(4, 'a', 'a'), Match(), Fork(1, 3)), false)
	admits(t, Program(Stand(api.AtBegin, 1), Fork(2, 3), Read(0, 'a', 'a'), Match()), true)
}
