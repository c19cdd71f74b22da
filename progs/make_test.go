package progs_test

import (
	"fmt"
	"slices"
	"testing"

	"martello/api"
	"martello/progs"
	. "martello/samples"
)

// The calls of the chapter, by their signatures.
var (
	_ func(api.Prog) api.Errno                          = progs.Check
	_ func(api.Prog, []int, api.At, bool) ([]int, bool) = progs.Closure
	_ func(api.Prog, []int, rune) []int                 = progs.Next
	_ func(api.Prog) []rune                             = progs.Classes
	_ func([]rune, rune) int                            = progs.Class
)

// all are the places of all instructions.
func all(p api.Prog) []int {
	var pcs []int
	for pc := range p.Insts {
		pcs = append(pcs, pc)
	}
	return pcs
}

// shown is a program, or a list, as a text, which ends where it is long.
func shown(x any) string { return fmt.Sprintf("%.400s", fmt.Sprint(x)) }

// checks holds Check of a program, and, if it is not right, that nothing is told of it.
func checks(t *testing.T, p api.Prog, want api.Errno) {
	t.Helper()
	if e := progs.Check(p); e != want {
		t.Errorf("Check of %s: %d, not %d", shown(p), e, want)
	}
	if want == api.OK {
		return
	}
	for _, pcs := range [][]int{nil, {0}, all(p)} {
		for _, longest := range []bool{false, true} {
			if reads, is := progs.Closure(p, pcs, 63, longest); len(reads) > 0 || is {
				t.Errorf("Closure of %s, %s: %s, %t", shown(p), shown(pcs), shown(reads), is)
			}
		}
		for _, c := range []rune{0, 'a', 0x10ffff, -1} {
			if outs := progs.Next(p, pcs, c); len(outs) > 0 {
				t.Errorf("Next of %s, %s: %s", shown(p), shown(pcs), shown(outs))
			}
		}
	}
	if l := progs.Classes(p); len(l) > 0 {
		t.Errorf("Classes of %s: %x", shown(p), l)
	}
}

// closes holds Closure of a program that is right, at a place, in one mode, and P12.3 of what it tells.
func closes(t *testing.T, p api.Prog, pcs []int, at api.At, longest bool, want []int, matches bool) {
	t.Helper()
	reads, is := progs.Closure(p, pcs, at, longest)
	if !slices.Equal(reads, want) || is != matches {
		t.Fatalf("Closure of %s, %s, at %d, longest %t: %s, %t; not %s, %t", shown(p), shown(pcs), at, longest, shown(reads), is, shown(want), matches)
	}
	for _, mode := range []bool{false, true} {
		for _, place := range []api.At{0, at, 63} {
			if again, is := progs.Closure(p, reads, place, mode); !slices.Equal(again, reads) || is {
				t.Fatalf("Closure of %s, twice of %s: %s, %t; not %s", shown(p), shown(pcs), shown(again), is, shown(reads))
			}
		}
	}
}

// bothClose is closes in both modes, where they tell the same.
func bothClose(t *testing.T, p api.Prog, pcs []int, at api.At, want []int, matches bool) {
	t.Helper()
	closes(t, p, pcs, at, false, want, matches)
	closes(t, p, pcs, at, true, want, matches)
}

// leads holds Next of a program that is right.
func leads(t *testing.T, p api.Prog, pcs []int, c rune, want ...int) {
	t.Helper()
	if outs := progs.Next(p, pcs, c); !slices.Equal(outs, want) {
		t.Fatalf("Next of %s, %s, by %x: %s, not %s", shown(p), shown(pcs), c, shown(outs), shown(want))
	}
}

// TestExamples: the chapter's table.
func TestExamples(t *testing.T) {
	p := api.Prog{Insts: []api.Inst{Match(), Read(0, 'a', 'a'), Fork(1, 0)}, Start: 2, Caps: 2}
	checks(t, p, api.OK)
	bothClose(t, p, []int{2}, 0, []int{1}, true)
	leads(t, p, []int{1}, 'a', 0)
	leads(t, p, []int{1}, 'b')
	p.Insts[2] = Fork(0, 1)
	closes(t, p, []int{2}, 0, false, nil, true)
	closes(t, p, []int{2}, 0, true, []int{1}, true)
}
