package onepass_test

import (
	"slices"
	"strings"
	"testing"

	"martello/api"
	"martello/onepass"
	. "martello/samples"
)

const most = api.MaxInsts

// row is a program of n instructions behind AtBegin, each by its place, and a match behind them.
func row(n int, inst func(pc int) api.Inst) api.Prog {
	insts := []api.Inst{Stand(api.AtBegin, 1)}
	for pc := 1; pc <= n; pc++ {
		insts = append(insts, inst(pc))
	}
	return Program(append(insts, Match())...)
}

// fit is one of the whole, and of one group.
func fit(ends ...int) []int { return append([]int{0}, ends...) }

// TestRow: H1, H2: MaxInsts instructions, each of which leads to the next, up to a match; and one more, which is no program.
func TestRow(t *testing.T) {
	const n = most - 2
	letters := strings.Repeat("a", n)
	reads := row(n, func(pc int) api.Inst { return Read(pc+1, 'a', 'a') })
	admits(t, reads, true)
	bothMatch(t, reads, Made(t, letters), fit(n, -1, -1))
	bothMatch(t, reads, Made(t, letters+"ab"), fit(n, -1, -1))
	bothMatch(t, reads, Made(t, letters[1:]), nil)
	keeps := row(n, func(pc int) api.Inst { return Keep(2+pc%2, pc+1) })
	admits(t, keeps, true)
	bothMatch(t, keeps, Made(t, letters), fit(0, 0, 0))
	stands := row(n, func(pc int) api.Inst { return Stand(SixAts()[pc%5], pc+1) })
	admits(t, stands, true)
	bothMatch(t, stands, Made(t, ""), nil)
	bothMatch(t, row(n, func(pc int) api.Inst { return Stand(SixAts()[pc%4], pc+1) }), Made(t, ""), fit(0, -1, -1))
	admits(t, row(n+1, func(pc int) api.Inst { return Read(pc+1, 'a', 'a') }), false)
	// Of the last two, one is come to from both.
	reads.Insts[most-2] = Fork(most-1, most-1)
	admits(t, reads, false)
}

// TestRing: H1: MaxInsts instructions in a ring: of runes, with one at least, or none.
func TestRing(t *testing.T) {
	p := row(most-2, func(pc int) api.Inst { return Keep(2+pc%2, pc%(most-2)+1) })
	admits(t, p, false)
	p.Insts[5000] = Read(5001, 'a', 'a')
	admits(t, p, true)
	bothMatch(t, p, Made(t, "aaa"), nil)
	p.Insts[5001] = Fork(5002, most-1)
	admits(t, p, true)
	bothMatch(t, p, Made(t, "aaa"), fit(3, 2, 2)) // the ring was gone round ahead of the last rune
	p.Insts[5003] = Fork(5004, 5001)
	admits(t, p, false)
}

// wide is a program in which each of n runes is read by an instruction of its own, and leads to the head again; a match comes last.
func wide(n int) api.Prog {
	var insts []api.Inst
	for i := range n {
		insts = append(insts, Fork(n+i, i+1))
	}
	for i := range rune(n) {
		insts = append(insts, Read(0, 0x100+2*i, 0x100+2*i))
	}
	insts[n-1].Arg = 2 * n
	return behindBegin(Program(append(insts, Match())...))
}

// TestWide: H1, H2: as many ways at each place as there may be.
func TestWide(t *testing.T) {
	const n = most/2 - 1
	p := wide(n)
	if len(p.Insts) != most {
		t.Fatal(len(p.Insts))
	}
	admits(t, p, true)
	text := ""
	for i := range rune(300) {
		text += string(0x100 + 2*((7*i*i)%n))
	}
	bothMatch(t, p, Made(t, text+"a"), fit(300, -1, -1))
	p.Insts[n+50].Set = Ranges(0x100+2*77, 0x100+2*77)
	admits(t, p, false)
}

// TestManyPlaces: H1: as many places as there may be from which ways begin, and from each as many as may be.
func TestManyPlaces(t *testing.T) {
	const n = most/2 - 1
	// A row of InstAlts, and an InstSet of each, which leads to the next one in the row.
	forks := row(2*n, func(pc int) api.Inst {
		if pc > n {
			return Read((pc-n)%n+1, rune(pc), rune(pc))
		}
		return Fork(pc+n, pc%n+1)
	})
	admits(t, forks, false) // they are a ring
	forks.Insts[n] = Fork(2*n, 2*n+1)
	admits(t, forks, true)
	bothMatch(t, forks, Made(t, string([]rune{n + 5, n + 6, n + 9, n + 8, n + 9})), fit(3, -1, -1))
}

// TestManyRanges: H1: sets of many ranges, that lie between one another; and one that stands in all instructions.
func TestManyRanges(t *testing.T) {
	const n = 40
	sets := make([][]api.Range, n)
	for c := range rune(100 * n) {
		sets[c%n] = append(sets[c%n], Ranges(0x400+3*c, 0x401+3*c)...)
	}
	p := wide(n)
	for i, set := range sets {
		p.Insts[n+i].Set = set
	}
	admits(t, p, true)
	bothMatch(t, p, Made(t, string([]rune{0x400, 0x401, 0x404, 0x403 + 3*n, 0x402})), fit(4, -1, -1))
	p.Insts[n+7].Set = append(slices.Clone(sets[7]), Ranges(0x20000, 0x20000)...)
	admits(t, p, true)
	p.Insts[n+9].Set = append(slices.Clone(sets[9]), Ranges(0x20000, 0x20000)...)
	admits(t, p, false)
	all := wide(most/2 - 1)
	for i := range all.Insts {
		if all.Insts[i].Op == api.InstSet {
			all.Insts[i].Set = sets[0]
		}
	}
	admits(t, all, false)
	var odd []api.Range
	for c := rune(1); c <= api.MaxRune; c += 2 {
		odd = append(odd, Ranges(c, c)...)
	}
	two := Program(Stand(api.AtBegin, 1), Fork(2, 3), api.Inst{Op: api.InstSet, Set: odd, Out: 1}, Read(1, 0, 0), Match())
	admits(t, two, true)
	bothMatch(t, two, Made(t, "a"), nil)
	two.Insts[3].Set = Ranges(0x10ffff, 0x10ffff)
	admits(t, two, false)
}

// TestMostGroups: H2: as many places of groups as there may be.
func TestMostGroups(t *testing.T) {
	const caps = 2*api.MaxGroups + 2
	p := row(2*caps, func(pc int) api.Inst {
		if pc%2 == 0 {
			return Read(pc+1, 'a', 'a')
		}
		return Keep(2+(pc/2)%(caps-2), pc+1)
	})
	p.Caps = caps
	admits(t, p, true)
	want := []int{0, caps, caps - 2, caps - 1}
	for i := 2; i < caps-2; i++ {
		want = append(want, i)
	}
	bothMatch(t, p, Made(t, strings.Repeat("a", caps)), want)
	bothMatch(t, p, Made(t, strings.Repeat("a", caps-1)), nil)
	loop := row(2, func(pc int) api.Inst { return []api.Inst{{}, Fork(2, 3), Read(1, 'a', 'a')}[pc] })
	loop.Caps = caps
	want = slices.Repeat([]int{-1}, caps)
	want[0], want[1] = 0, 2000
	bothMatch(t, loop, Made(t, strings.Repeat("a", 2000)), want)
}

// TestLongText: H2: texts of MaxText bytes, whose ends both modes find, or only one.
func TestLongText(t *testing.T) {
	letters := strings.Repeat("a", api.MaxText)
	fits(t, "^(a)*", letters, []int{0, api.MaxText, api.MaxText - 1, api.MaxText}, []int{0, api.MaxText, api.MaxText - 1, api.MaxText})
	fits(t, "^(a)*?", letters, []int{0, 0, -1, -1}, []int{0, api.MaxText, api.MaxText - 1, api.MaxText})
	fits(t, "^a(?:(?:(?:aa)*)b)?", letters, []int{0, 1}, []int{0, 1})
	fits(t, "^(?:a|(b))*$", letters[1:]+"b", []int{0, api.MaxText, api.MaxText - 1, api.MaxText}, []int{0, api.MaxText, api.MaxText - 1, api.MaxText})
	fits(t, "^a*(?:ba*)*$", letters[1:]+"c", nil, nil)
}

// TestEarly: H2: steps are taken as far as the walk goes alone.
func TestEarly(t *testing.T) {
	p := ProgOf(t, "^abc")
	short, long := Made(t, "abx"), Made(t, "abx"+strings.Repeat("abc", 20000))
	bothMatch(t, p, short, nil)
	bothMatch(t, p, long, nil)
	_, _, few := onepass.Match(p, short, false)
	if _, _, many := onepass.Match(p, long, false); many != few {
		t.Errorf("%d steps, and %d", few, many)
	}
}
