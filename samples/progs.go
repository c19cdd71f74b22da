package samples

import (
	"math"
	"slices"

	"martello/api"
)

// The instructions of each Op.

func Match() api.Inst                { return api.Inst{Op: api.InstMatch} }
func Fail() api.Inst                 { return api.Inst{Op: api.InstFail} }
func Fork(out, arg int) api.Inst     { return api.Inst{Op: api.InstAlt, Out: out, Arg: arg} }
func Keep(arg, out int) api.Inst     { return api.Inst{Op: api.InstCap, Arg: arg, Out: out} }
func Stand(a api.At, o int) api.Inst { return api.Inst{Op: api.InstAt, At: a, Out: o} }
func Read(out int, ends ...rune) api.Inst {
	return api.Inst{Op: api.InstSet, Out: out, Set: Ranges(ends...)}
}

// Program is one that begins at its first instruction, with places for one group.
func Program(insts ...api.Inst) api.Prog { return api.Prog{Insts: insts, Caps: 4} }

// EachOp is a right program with an instruction of each Op.
func EachOp() api.Prog {
	return Program(Fork(1, 2), Read(3, 'a', 'c', 'e', 'e'), Stand(api.AtWord, 4), Keep(3, 5), Fail(), Match())
}

// SixAts are all that a place may be.
func SixAts() []api.At {
	return []api.At{api.AtBegin, api.AtEnd, api.AtBeginLine, api.AtEndLine, api.AtWord, api.AtNoWord}
}

// FarInts are numbers that are no instruction's place.
func FarInts() []int {
	return []int{-1, -2, 100, 10000, math.MinInt32, math.MaxInt32, math.MinInt, math.MaxInt}
}

// Repertoire are instructions that may stand in a program of n: each Op with each place to which it may lead.
func Repertoire(n int) []api.Inst {
	list := []api.Inst{Match(), Fail()}
	for out := range n {
		list = append(list, Read(out, 'a', 'b'), Read(out, 'b', 'c'), Keep(2+out%2, out), Stand(api.AtEnd, out))
		for arg := range n {
			list = append(list, Fork(out, arg))
		}
	}
	return list
}

// SmallPrograms hands on one of each so many of all programs of n instructions of a list.
func SmallPrograms(n, each int, list []api.Inst, yield func(api.Prog)) {
	count := 1
	for range n {
		count *= len(list)
	}
	for number := 0; number < count; number += each {
		var insts []api.Inst
		for rest := number; len(insts) < n; rest /= len(list) {
			insts = append(insts, list[rest%len(list)])
		}
		yield(Program(insts...))
	}
}

// Ruled is a program of n instructions that hang together by a rule, most of which fork and read; there are some thousands, each by its seed.
func Ruled(n, seed int) api.Prog {
	var insts []api.Inst
	for i := range n {
		x := seed*31 + i*(seed%7+3) + i*i
		next, out := (i+1)%n, (x/5+i)%n
		one := 'a' + rune(x/3)%4
		insts = append(insts, []api.Inst{Fork(next, out), Read(next, one, one), Read(out, one, one), Keep(2+x%2, next), Match(), Fork(out, next), Read(next, 'a', one)}[x%7])
	}
	return Program(insts...)
}

// WrongPrograms are programs that are not right, each for one thing.
func WrongPrograms() []api.Prog {
	all := []api.Prog{{}, {Caps: 2}, {Insts: []api.Inst{}, Caps: 2}, {Insts: slices.Repeat([]api.Inst{Match()}, api.MaxInsts+1), Caps: 2}}
	for _, start := range append([]int{6, 7}, FarInts()...) {
		p := EachOp()
		p.Start = start
		all = append(all, p)
	}
	for _, caps := range []int{0, 1, 3, -1, -2, 4001, 4003, 4004, math.MinInt, math.MaxInt, math.MaxInt - 1} {
		all = append(all, api.Prog{Insts: []api.Inst{Match()}, Caps: caps})
	}
	for _, bad := range WrongInsts() {
		for i := range 3 {
			p := Program(Read(1, 'a', 'z'), Fork(2, 0), Match())
			p.Insts[i] = bad
			p.Start = (i + 1) % 3
			all = append(all, p)
		}
	}
	return all
}

// WrongInsts are instructions that stand in no right program of three of them, with 4 Caps.
func WrongInsts() []api.Inst {
	var all []api.Inst
	for _, op := range []api.InstOp{0, 7, 8, -1, -2, math.MinInt, math.MaxInt} {
		all = append(all, api.Inst{Op: op})
	}
	for _, pc := range append([]int{3, 4}, FarInts()...) {
		all = append(all, Read(pc, 'a', 'a'), Fork(pc, 0), Fork(0, pc), Keep(2, pc), Stand(api.AtEnd, pc))
	}
	for _, arg := range append([]int{0, 1, 4, 5}, FarInts()...) {
		all = append(all, Keep(arg, 0))
	}
	for _, set := range WrongSets() {
		all = append(all, api.Inst{Op: api.InstSet, Set: set})
	}
	for _, at := range WrongAts() {
		all = append(all, Stand(at, 0))
	}
	return append(all, foreignFields()...)
}

// foreignFields are instructions with a field that is not their Op's, and not zero.
func foreignFields() []api.Inst {
	var all []api.Inst
	for _, inst := range EachOp().Insts {
		inst.Out, inst.Arg = min(inst.Out, 2), min(inst.Arg, 2)
		outs, args, runes, ats := inst, inst, inst, inst
		outs.Out, args.Arg, runes.Set, ats.At = 1, 2, Ranges('x', 'x'), api.AtEnd
		switch inst.Op {
		case api.InstMatch, api.InstFail:
			all = append(all, outs, args, runes, ats)
		case api.InstSet:
			all = append(all, args, ats)
		case api.InstAlt, api.InstCap:
			all = append(all, runes, ats)
		case api.InstAt:
			all = append(all, args, runes)
		}
	}
	return all
}

// RightSets are sets of an InstSet.
func RightSets() [][]api.Range {
	return [][]api.Range{Ranges(0, 0), Ranges(0, 0x10ffff), Ranges(0x10ffff, 0x10ffff), Ranges(5, 5, 7, 7), Ranges('a', 'z'), Ranges(0, 1, 3, 3, 0xd800, 0xdfff, 0x10fffd, 0x10ffff)}
}

// WrongSets are lists that are no set of an InstSet.
func WrongSets() [][]api.Range {
	return [][]api.Range{nil, {}, Ranges(5, 4), Ranges(5, 5, 6, 6), Ranges(1, 5, 5, 9), Ranges(1, 9, 2, 3), Ranges(7, 9, 1, 5), Ranges(5, 5, 5, 5), Ranges(-1, 5), Ranges(-3, -2), Ranges(5, 0x110000), Ranges(0x110000, 0x110000), Ranges(math.MinInt32, math.MaxInt32), Ranges('a', 'b', 'z', 'y')}
}

// WrongAts are sums that are none of what a place may be, or several.
func WrongAts() []api.At {
	return []api.At{0, 3, 5, 6, 12, 17, 24, 33, 48, 63, 64, 65, 128, -1, -32, math.MinInt, math.MaxInt}
}

// RoomyProg is a copy of a program whose lists have spare room, with something in it.
func RoomyProg(p api.Prog) api.Prog {
	insts := append(slices.Clone(p.Insts), Read(9, 'x', 'y'), Fork(7, 8))
	for pc, i := range p.Insts {
		insts[pc].Set = append(slices.Clone(i.Set), Ranges(7, 7, 9, 9)...)[:len(i.Set)]
	}
	p.Insts = insts[:len(p.Insts)]
	return p
}

// WholeProg is a copy of a program with what its lists' spare room has as well.
func WholeProg(p api.Prog) api.Prog {
	p.Insts = slices.Clone(p.Insts[:cap(p.Insts)])
	for pc := range p.Insts {
		set := &p.Insts[pc].Set
		*set = slices.Clone((*set)[:cap(*set)])
	}
	return p
}

// SpoilProg writes over all lists of a program, and their spare room.
func SpoilProg(p api.Prog) {
	insts := p.Insts[:cap(p.Insts)]
	for pc, i := range insts {
		for r := range i.Set[:cap(i.Set)] {
			i.Set[:cap(i.Set)][r] = api.Range{Lo: 1, Hi: 2}
		}
		insts[pc] = Fork(1, 1)
	}
}
