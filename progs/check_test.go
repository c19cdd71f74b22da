package progs_test

import (
	"math"
	"slices"
	"testing"

	"martello/api"
	"martello/progs"
	. "martello/samples"
	"martello/sets"
)

// TestRight: G1: programs that are right, with both ends of what each field may be.
func TestRight(t *testing.T) {
	all := []api.Prog{EachOp(), {Insts: []api.Inst{Match()}, Caps: 2}, {Insts: []api.Inst{Fail()}, Caps: 2}, {Insts: []api.Inst{Fork(0, 0)}, Caps: 2}, {Insts: []api.Inst{Read(0, 0, 0)}, Caps: 2}}
	for start := range EachOp().Insts {
		p := EachOp()
		p.Start = start
		all = append(all, p)
	}
	for _, caps := range []int{4, 6, 8, 2000, 4000, 4002} {
		p := EachOp()
		p.Caps = caps
		all = append(all, p)
		for _, arg := range []int{2, 3, caps - 2, caps - 1} {
			all = append(all, api.Prog{Insts: []api.Inst{Match(), Keep(arg, 0)}, Start: 1, Caps: caps})
		}
	}
	for _, at := range SixAts() {
		all = append(all, Program(Match(), Stand(at, 0)), Program(Match(), Stand(at, 1)))
	}
	for _, set := range RightSets() {
		all = append(all, Program(Match(), api.Inst{Op: api.InstSet, Set: set}), Program(Match(), api.Inst{Op: api.InstSet, Out: 1, Set: set}))
	}
	for _, p := range all {
		checks(t, p, api.OK)
	}
}

// TestEmptySet: a list without ranges, nil or not, is no set of an InstSet, and zero of all others.
func TestEmptySet(t *testing.T) {
	for i, inst := range EachOp().Insts {
		for _, none := range [][]api.Range{nil, {}, make([]api.Range, 0, 5)} {
			p := EachOp()
			p.Insts[i].Set = none
			if inst.Op == api.InstSet {
				checks(t, p, api.ErrProg)
			} else {
				checks(t, p, api.OK)
			}
		}
	}
}

// TestHowMany: G1: no instruction is none, MaxInsts are as many as may be.
func TestHowMany(t *testing.T) {
	checks(t, api.Prog{}, api.ErrProg)
	checks(t, api.Prog{Caps: 2}, api.ErrProg)
	checks(t, api.Prog{Insts: []api.Inst{}, Caps: 2}, api.ErrProg)
	for _, inst := range []api.Inst{Match(), Fail(), Read(9, 'a', 'z'), Fork(7, 8), Keep(2, 0), Stand(api.AtEnd, 1)} {
		for n, want := range map[int]api.Errno{10: api.OK, 9999: api.OK, 10000: api.OK, 10001: api.ErrProg, 10002: api.ErrProg, 70000: api.ErrProg} {
			checks(t, api.Prog{Insts: slices.Repeat([]api.Inst{inst}, n), Start: 9, Caps: 4}, want)
		}
	}
}

// TestStart: G1: where a program begins must be an instruction.
func TestStart(t *testing.T) {
	for _, start := range append([]int{6, 7}, FarInts()...) {
		p := EachOp()
		p.Start = start
		checks(t, p, api.ErrProg)
	}
	checks(t, api.Prog{Insts: []api.Inst{Match()}, Start: 1, Caps: 2}, api.ErrProg)
}

// TestCaps: G1: as many places of groups as may be, and no more; an even number.
func TestCaps(t *testing.T) {
	for caps, want := range map[int]api.Errno{2: api.OK, 4: api.OK, 4000: api.OK, 4002: api.OK, 0: api.ErrProg, 1: api.ErrProg, 3: api.ErrProg, 5: api.ErrProg, 4001: api.ErrProg, 4003: api.ErrProg, 4004: api.ErrProg, -1: api.ErrProg, -2: api.ErrProg, -4: api.ErrProg, math.MinInt: api.ErrProg, math.MaxInt: api.ErrProg, math.MaxInt - 1: api.ErrProg} {
		checks(t, api.Prog{Insts: []api.Inst{Match()}, Caps: caps}, want)
	}
}

// TestOneWrong: G1: one thing wrong each: of the first instruction, of the last, and of one between.
func TestOneWrong(t *testing.T) {
	for _, bad := range WrongInsts() {
		for i := range 3 {
			p := Program(Read(1, 'a', 'z'), Fork(2, 0), Match())
			p.Insts[i] = bad
			p.Start = (i + 1) % 3
			if n := faults(p); n != 1 {
				t.Errorf("%v: %d things are wrong", bad, n)
			}
			checks(t, p, api.ErrProg)
		}
	}
	for _, p := range WrongPrograms() {
		checks(t, p, api.ErrProg)
	}
}

// faults are how many things are wrong with a program, by the chapter's words.
func faults(p api.Prog) int {
	n := 0
	must := func(so bool) {
		if !so {
			n++
		}
	}
	place := func(pc int) bool { return slices.Contains(all(p), pc) }
	must(len(p.Insts) >= 1)
	must(len(p.Insts) <= 10000)
	must(place(p.Start))
	must(p.Caps%2 == 0)
	must(p.Caps >= 2)
	must(p.Caps <= 4002)
	for _, i := range p.Insts {
		must(slices.Contains([]api.InstOp{1, 2, 3, 4, 5, 6}, i.Op))
		if i.Op == api.InstMatch || i.Op == api.InstFail {
			must(i.Out == 0)
		} else {
			must(place(i.Out))
		}
		switch i.Op {
		case api.InstAlt:
			must(place(i.Arg))
		case api.InstCap:
			must(2 <= i.Arg)
			must(i.Arg < p.Caps)
		default:
			must(i.Arg == 0)
		}
		if i.Op == api.InstSet {
			must(sets.Right(i.Set))
			must(len(i.Set) >= 1)
		} else {
			must(len(i.Set) == 0)
		}
		if i.Op == api.InstAt {
			must(slices.Contains(SixAts(), i.At))
		} else {
			must(i.At == 0)
		}
	}
	return n
}

// TestFields: G1: of one instruction each Op with each value of each field, right ones and wrong ones, in all sums.
func TestFields(t *testing.T) {
	rights, wrongs := 0, 0
	places := []int{0, 1, 2, 3, 4, -1, math.MinInt, math.MaxInt}
	for _, op := range []api.InstOp{0, 1, 2, 3, 4, 5, 6, 7, -1, math.MaxInt} {
		for _, out := range places {
			for _, arg := range append([]int{5, 6}, places...) {
				for _, set := range append(WrongSets(), RightSets()...) {
					for _, at := range append(slices.Clone(SixAts()), 0, 3, 63, 64, -1) {
						for _, caps := range []int{2, 4, 6} {
							p := api.Prog{Insts: []api.Inst{Match(), {Op: op, Out: out, Arg: arg, Set: set, At: at}, Fail()}, Start: 1, Caps: caps}
							want := api.OK
							if faults(p) > 0 {
								want = api.ErrProg
								wrongs++
							} else {
								rights++
							}
							if e := progs.Check(p); e != want {
								t.Fatalf("%v: %d, not %d", p, e, want)
							}
						}
					}
				}
			}
		}
	}
	if rights < 50 || wrongs < 50 {
		t.Error(rights, wrongs)
	}
}
