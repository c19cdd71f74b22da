package progs_test

import (
	"slices"
	"testing"

	"martello/api"
	"martello/progs"
	. "martello/samples"
)

const most = api.MaxInsts

// made is a program of so many instructions, each by its place.
func made(n int, inst func(pc int) api.Inst) api.Prog {
	var insts []api.Inst
	for pc := range n {
		insts = append(insts, inst(pc))
	}
	return Program(insts...)
}

// from are the numbers from one on, up to another one, or down.
func from(first, last int) []int {
	numbers := []int{first}
	for first != last {
		if first < last {
			first++
		} else {
			first--
		}
		numbers = append(numbers, first)
	}
	return numbers
}

// TestOneRing: MaxInsts instructions, the last of which leads to the first again.
func TestOneRing(t *testing.T) {
	next := func(pc int) int { return (pc + 1) % most }
	for name, inst := range map[string]func(pc int) api.Inst{
		"InstAlt, both on":    func(pc int) api.Inst { return Fork(next(pc), next(pc)) },
		"InstAlt, one back":   func(pc int) api.Inst { return Fork(next(pc), (pc+most-1)%most) },
		"InstAlt, one astray": func(pc int) api.Inst { return Fork(pc*pc%most, next(pc)) },
		"InstCap":             func(pc int) api.Inst { return Keep(2+pc%2, next(pc)) },
		"InstAt":              func(pc int) api.Inst { return Stand(SixAts()[pc%6], next(pc)) },
		"all of these": func(pc int) api.Inst {
			return []api.Inst{Fork(next(pc), pc), Keep(3, next(pc)), Stand(api.AtWord, next(pc))}[pc%3]
		},
	} {
		p := made(most, inst)
		checks(t, p, api.OK)
		for _, pcs := range [][]int{{0}, {most - 1}, {5000}, from(0, most-1), from(most-1, 0)} {
			for _, longest := range []bool{false, true} {
				if reads, is := progs.Closure(p, pcs, 63, longest); len(reads) > 0 || is {
					t.Errorf("%s: %s, %t", name, shown(reads), is)
				}
			}
		}
		p.Insts[7000] = Read(7000, 'a', 'z')
		bothClose(t, p, []int{0}, 63, []int{7000}, false)
		p.Insts[7000] = Match()
		bothClose(t, p, []int{7001}, 63, nil, true)
		checks(t, made(most+1, func(pc int) api.Inst { return inst(pc % most) }), api.ErrProg)
	}
}

// TestRingOfSets: of InstSets one leads to the next alone, rune by rune, all round.
func TestRingOfSets(t *testing.T) {
	p := made(most, func(pc int) api.Inst { return Read((pc+1)%most, 'a', 'a') })
	checks(t, p, api.OK)
	pcs := from(0, most-1)
	bothClose(t, p, pcs, 0, pcs, false)
	slices.Reverse(pcs)
	bothClose(t, p, pcs, 0, pcs, false)
	leads(t, p, from(0, most-1), 'a', append(from(1, most-1), 0)...)
	leads(t, p, from(0, most-1), 'b')
	leads(t, p, []int{most - 1, 5}, 'a', 0, 6)
}

// TestOneRow: MaxInsts instructions, each of which leads to the next, up to a match.
func TestOneRow(t *testing.T) {
	for name, inst := range map[string]func(pc int) api.Inst{
		"InstAlt": func(pc int) api.Inst { return Fork(pc+1, pc+1) },
		"InstCap": func(pc int) api.Inst { return Keep(2, pc+1) },
		"InstAt":  func(pc int) api.Inst { return Stand(SixAts()[pc%6], pc+1) },
	} {
		p := made(most-1, inst)
		p.Insts = append(p.Insts, Match())
		checks(t, p, api.OK)
		for _, pcs := range [][]int{{0}, {most - 1}, from(most-1, 0)} {
			for _, longest := range []bool{false, true} {
				if reads, is := progs.Closure(p, pcs, 63, longest); len(reads) > 0 || !is {
					t.Errorf("%s: %s, %t", name, shown(reads), is)
				}
			}
		}
	}
	p := made(most-1, func(pc int) api.Inst { return Stand(SixAts()[pc%6], pc+1) })
	p.Insts = append(p.Insts, Match())
	bothClose(t, p, []int{0}, 63-api.AtNoWord, nil, false)
}

// TestRowOfForks: a row of InstAlts with an InstSet each, which comes ahead of the rest of the row, or behind.
func TestRowOfForks(t *testing.T) {
	const half = most / 2
	ahead := made(most, func(pc int) api.Inst {
		if pc < half {
			return Fork(pc+half, (pc+1)%half)
		}
		return Read(0, 'a', 'a')
	})
	behind := made(most, func(pc int) api.Inst {
		if pc < half {
			return Fork((pc+1)%half, pc+half)
		}
		return Read(0, 'a', 'a')
	})
	bothClose(t, ahead, []int{0}, 0, from(half, most-1), false)
	bothClose(t, behind, []int{0}, 0, from(most-1, half), false)
	ahead.Insts[half+9] = Match()
	closes(t, ahead, []int{0}, 0, false, from(half, half+8), true)
	closes(t, ahead, []int{0}, 0, true, append(from(half, half+8), from(half+10, most-1)...), true)
}

// TestHeap: a program that forks as often as it may, over and over.
func TestHeap(t *testing.T) {
	p := made(most, func(pc int) api.Inst { return Fork((2*pc+1)%most, (2*pc+2)%most) })
	bothClose(t, p, []int{0}, 0, nil, false)
	p.Insts[most-1] = Read(0, 'a', 'a')
	bothClose(t, p, []int{0}, 0, []int{most - 1}, false)
}

// TestManyRanges: as many Sets as may be, each of its own, and all of them the same.
func TestManyRanges(t *testing.T) {
	own := made(most, func(pc int) api.Inst { return Read(pc, rune(0x100+pc*2), rune(0x100+pc*2)) })
	var firsts []rune
	for c := range rune(2 * most) {
		firsts = append(firsts, 0x100+c)
	}
	classes(t, own, firsts...)
	leads(t, own, from(0, most-1), 0x100+2*5000, 5000)
	var set []api.Range
	for i := range rune(500) {
		set = append(set, Ranges(0x100+i*2, 0x100+i*2)...)
	}
	shared := made(most, func(pc int) api.Inst { return api.Inst{Op: api.InstSet, Out: pc, Set: set} })
	classes(t, shared, firsts[:1000]...)
	leads(t, shared, from(0, most-1), 0x101)
	leads(t, shared, from(0, most-1), 0x102, from(0, most-1)...)
}
