package progs_test

import (
	"slices"
	"testing"

	"martello/api"
	"martello/progs"
	. "martello/samples"
	"martello/sets"
)

// The model of what one comes to are the ways themselves, one by one: each that comes to none twice, gone anew from its beginning. What stands in them first comes first.

// ways hands on all to which one comes behind a way, in order, as often as some way does.
func ways(p api.Prog, way []int, pc int, at api.At, yield func(int)) {
	if slices.Contains(way, pc) {
		return
	}
	yield(pc)
	way = append(slices.Clone(way), pc)
	switch i := p.Insts[pc]; {
	case i.Op == api.InstAlt:
		ways(p, way, i.Out, at, yield)
		ways(p, way, i.Arg, at, yield)
	case i.Op == api.InstCap, i.Op == api.InstAt && at&i.At != 0:
		ways(p, way, i.Out, at, yield)
	}
}

// comesTo are the instructions to which one comes, each where it stands first.
func comesTo(p api.Prog, pcs []int, at api.At) []int {
	var to []int
	for _, pc := range pcs {
		ways(p, nil, pc, at, func(pc int) {
			if !slices.Contains(to, pc) {
				to = append(to, pc)
			}
		})
	}
	return to
}

// modelClosure is G2 by its words.
func modelClosure(p api.Prog, pcs []int, at api.At, longest bool) (reads []int, is bool) {
	for _, pc := range comesTo(p, pcs, at) {
		switch p.Insts[pc].Op {
		case api.InstMatch:
			is = true
		case api.InstSet:
			if longest || !is {
				reads = append(reads, pc)
			}
		}
	}
	return reads, is
}

// modelNext is G3 by its words.
func modelNext(p api.Prog, pcs []int, c rune) []int {
	var outs []int
	for _, pc := range pcs {
		if i := p.Insts[pc]; i.Op == api.InstSet && sets.Has(i.Set, c) && !slices.Contains(outs, i.Out) {
			outs = append(outs, i.Out)
		}
	}
	return outs
}

// TestSmall: P12.1, P12.3: all programs of up to three instructions, and some of four and five, from each instruction, and from several.
func TestSmall(t *testing.T) {
	for i, each := range []int{1, 1, 1, 97, 40009} {
		SmallPrograms(i+1, each, Repertoire(i+1), func(p api.Prog) { againstModel(t, p) })
	}
}

// againstModel holds Closure and Next of a program against the model.
func againstModel(t *testing.T, p api.Prog) {
	t.Helper()
	if progs.Check(p) != api.OK {
		t.Fatalf("%v: not right", p)
	}
	n := len(p.Insts)
	lists := [][]int{all(p), {n - 1, 0, n - 1}}
	for pc := range n {
		lists = append(lists, []int{pc}, []int{pc, (pc + 1) % n})
	}
	for _, pcs := range lists {
		for _, at := range []api.At{0, api.AtEnd, 63 - api.AtEnd, 63} {
			for _, longest := range []bool{false, true} {
				reads, is := modelClosure(p, pcs, at, longest)
				closes(t, p, pcs, at, longest, reads, is)
			}
		}
		for c := 'a'; c <= 'd'; c++ {
			leads(t, p, pcs, c, modelNext(p, pcs, c)...)
		}
	}
}

// TestGreater: programs of more instructions, that hang together by a rule with many rings, against the model.
func TestGreater(t *testing.T) {
	for n := 6; n <= 9; n++ {
		for seed := range 400 {
			var insts []api.Inst
			for i := range n {
				x := seed*31 + i*(seed%7+3) + i*i
				out, arg := (x/3)%n, (x/5+i)%n
				insts = append(insts, []api.Inst{Fork(out, arg), Read(out, 'a', 'b'), Fork(arg, out), Keep(2, out), Stand(api.AtEnd, arg), Match(), Fork(out, (i+1)%n), Read(arg, 'b', 'c')}[x%8])
			}
			againstModel(t, Program(insts...))
		}
	}
}
