package progs_test

import (
	"math"
	"slices"
	"testing"

	"martello/api"
	. "martello/samples"
)

// TestNext: G3: by runes that no Set has, that one has, that several have.
func TestNext(t *testing.T) {
	p := Program(Match(), Read(4, 'a', 'c'), Read(5, 'b', 'd', 'x', 'x'), Read(4, 'c', 'c', 'y', 'z'), Read(1, 0, 'a'), Read(2, 0x10ffff, 0x10ffff))
	pcs := []int{1, 2, 3, 4, 5}
	leads(t, p, pcs, 'a', 4, 1)
	leads(t, p, pcs, 'b', 4, 5)
	leads(t, p, pcs, 'c', 4, 5)
	leads(t, p, pcs, 'd', 5)
	leads(t, p, pcs, 'e')
	leads(t, p, pcs, 'w')
	leads(t, p, pcs, 'x', 5)
	leads(t, p, pcs, 'y', 4)
	leads(t, p, pcs, 'z', 4)
	leads(t, p, pcs, '{')
	leads(t, p, pcs, 0, 1)
	leads(t, p, pcs, 0x10fffe)
	leads(t, p, pcs, 0x10ffff, 2)
}

// TestNextOrder: G3: Outs stand in the order of those that are asked, each once, where it stands first.
func TestNextOrder(t *testing.T) {
	p := Program(Read(3, 'a', 'a'), Read(2, 'a', 'b'), Read(1, 'a', 'c'), Read(2, 'a', 'd'), Read(3, 'b', 'b'))
	for _, x := range [][2][]int{
		{nil, nil}, {{}, nil}, {{0}, {3}}, {{0, 1, 2}, {3, 2, 1}}, {{2, 1, 0}, {1, 2, 3}}, {{1, 3}, {2}}, {{3, 1}, {2}}, {{3, 0, 1}, {2, 3}}, {{0, 0, 0}, {3}}, {{2, 0, 2, 1, 0}, {1, 3, 2}}, {{4}, nil}, {{4, 0}, {3}}, {{4, 4, 1, 4}, {2}},
	} {
		leads(t, p, x[0], 'a', x[1]...)
	}
	leads(t, p, []int{0, 4, 1, 2, 3}, 'b', 3, 2, 1)
	leads(t, p, slices.Repeat([]int{4, 0, 1}, 100000), 'a', 3, 2)
}

// TestNextOthers: G3: only InstSets lead on; those that are none, or no instruction's place, are passed over.
func TestNextOthers(t *testing.T) {
	p := Program(Match(), Fail(), Fork(6, 5), Keep(2, 5), Stand(api.AtEnd, 5), Read(1, 'a', 'a'), Fork(5, 5))
	for pc := range 7 {
		if pc != 5 {
			leads(t, p, []int{pc}, 'a')
		}
	}
	leads(t, p, []int{0, 1, 2, 3, 4, 5, 6}, 'a', 1)
	for _, bad := range append([]int{7, 8}, FarInts()...) {
		leads(t, p, []int{bad}, 'a')
		leads(t, p, []int{bad, 5}, 'a', 1)
		leads(t, p, []int{5, bad}, 'a', 1)
		leads(t, p, []int{bad, 2, 5, bad, 5}, 'a', 1)
	}
}

// TestNextNoRune: G3: what is no rune is in no Set.
func TestNextNoRune(t *testing.T) {
	p := Program(Read(0, 0, 0x10ffff))
	for _, c := range []rune{-1, -2, 0x110000, 0x110001, math.MinInt32, math.MaxInt32} {
		leads(t, p, []int{0}, c)
	}
	for _, c := range []rune{0, 'a', 0xd800, 0xdfff, 0xfffd, 0x10ffff} {
		leads(t, p, []int{0}, c, 0)
	}
}

// TestNextSets: G3: each rune at an end of a range, and beside it.
func TestNextSets(t *testing.T) {
	set := Ranges(0, 2, 4, 4, 10, 20, 0xd7ff, 0xe000, 0x10fff0, 0x10ffff)
	p := Program(api.Inst{Op: api.InstSet, Out: 0, Set: set})
	for _, r := range set {
		for _, c := range []rune{r.Lo - 1, r.Lo, r.Lo + 1, r.Hi - 1, r.Hi, r.Hi + 1} {
			if slices.ContainsFunc(set, func(r api.Range) bool { return r.Lo <= c && c <= r.Hi }) {
				leads(t, p, []int{0}, c, 0)
			} else {
				leads(t, p, []int{0}, c)
			}
		}
	}
}
