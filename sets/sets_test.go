package sets_test

import (
	"math"
	"slices"
	"testing"

	"martello/api"
	"martello/sets"
)

// The calls of the chapter, by their signatures.
var (
	_ func([]api.Range) bool                     = sets.Right
	_ func([]api.Range, rune) bool               = sets.Has
	_ func([]api.Range) int                      = sets.Count
	_ func([]api.Range) []api.Range              = sets.Norm
	_ func([]api.Range, []api.Range) []api.Range = sets.Union
	_ func([]api.Range, []api.Range) []api.Range = sets.Meet
	_ func([]api.Range) []api.Range              = sets.Not
)

// ranges are a list of them, by both ends each.
func ranges(ends ...rune) []api.Range {
	var l []api.Range
	for i := 0; i+1 < len(ends); i += 2 {
		l = append(l, api.Range{Lo: ends[i], Hi: ends[i+1]})
	}
	return l
}

// TestExamples: the chapter's table.
func TestExamples(t *testing.T) {
	if l := sets.Norm(ranges(5, 9, 3, 6, 10, 10, 20, 10)); !same(l, ranges(3, 10)) {
		t.Error("Norm", l)
	}
	if l := sets.Not(nil); !same(l, ranges(0, 0x10ffff)) {
		t.Error("Not", l)
	}
	if l := sets.Meet(ranges(1, 5), ranges(3, 9)); !same(l, ranges(3, 5)) {
		t.Error("Meet", l)
	}
}

// TestRight: what is a set, and what is none, written out.
func TestRight(t *testing.T) {
	for _, l := range [][]api.Range{nil, {}, ranges(0, 0), ranges(0, 0x10ffff), ranges(0x10ffff, 0x10ffff), ranges(5, 5, 7, 7), ranges('0', '9', 'A', 'Z', 'a', 'z'), ranges(0, 0x10fffd, 0x10ffff, 0x10ffff)} {
		if !sets.Right(l) {
			t.Errorf("%x: no set", l)
		}
	}
	for _, l := range [][]api.Range{
		ranges(5, 4), ranges(1, 2, 5, 4), ranges(0, -1), // falls
		ranges(1, 5, 6, 9), ranges(1, 5, 5, 9), ranges(1, 5, 3, 9), ranges(1, 9, 3, 5), ranges(1, 5, 1, 5), // one above, touch, overlap, within, twice
		ranges(7, 9, 1, 5),                                                                                                   // out of order
		ranges(-1, 5), ranges(-5, -1), ranges(5, 0x110000), ranges(0x110000, 0x110000), ranges(math.MinInt32, math.MaxInt32), // no runes
		ranges(1, math.MaxInt32, 5, 6), ranges(1, math.MaxInt32, math.MinInt32+1, 6), ranges(0, 0x10ffff, 0x110001, 0x110001),
	} {
		if sets.Right(l) {
			t.Errorf("%x: a set", l)
		}
	}
}

// TestHas: what is a rune, and lies in a range; of what is no rune no list has any.
func TestHas(t *testing.T) {
	l := ranges(20, 10, 'x', 'z', 'a', 'c', 'b', 'y', -9, 0, 0x10ffff, math.MaxInt32)
	for c, want := range map[rune]bool{0: true, 1: false, 10: false, 15: false, 20: false, 'a' - 1: false, 'a': true, 'm': true, 'z': true, 'z' + 1: false, 0x10fffe: false, 0x10ffff: true, 0x110000: false, -1: false, -9: false, math.MinInt32: false, math.MaxInt32: false} {
		if h := sets.Has(l, c); h != want {
			t.Errorf("Has(%x): %v", c, h)
		}
	}
	if sets.Has(nil, 0) || sets.Has(nil, -1) || sets.Has([]api.Range{}, 'a') {
		t.Error("nothing has a rune")
	}
}

// TestCount: each rune once, and runes alone.
func TestCount(t *testing.T) {
	for _, x := range []struct {
		l    []api.Range
		want int
	}{
		{nil, 0}, {ranges(5, 4), 0}, {ranges(5, 5), 1}, {ranges(5, 5, 5, 5), 1}, {ranges(1, 5, 3, 9), 9}, {ranges(3, 9, 1, 5, 4, 4), 9}, {ranges(1, 3, 5, 7), 6}, {ranges(1, 3, 4, 7), 7},
		{ranges(-5, -1), 0}, {ranges(-5, 0), 1}, {ranges(0x110000, math.MaxInt32), 0}, {ranges(0x10ffff, 0x110000), 1}, {ranges(math.MinInt32, math.MaxInt32), 0x110000}, {ranges(math.MaxInt32, math.MinInt32), 0}, {ranges(0, 0x10ffff, 0, 0x10ffff), 0x110000},
	} {
		if n := sets.Count(x.l); n != x.want {
			t.Errorf("Count of %x: %d; not %d", x.l, n, x.want)
		}
	}
}

// TestNorm: how two ranges lie to one another, written out.
func TestNorm(t *testing.T) {
	for _, x := range []struct{ l, want []api.Range }{
		{nil, nil}, {ranges(9, 5), nil}, {ranges(9, 5, 7, 7), ranges(7, 7)},
		{ranges(1, 3, 3, 5), ranges(1, 5)}, {ranges(1, 3, 4, 5), ranges(1, 5)}, {ranges(1, 3, 5, 6), ranges(1, 3, 5, 6)}, {ranges(5, 6, 1, 3), ranges(1, 3, 5, 6)}, {ranges(4, 5, 1, 3), ranges(1, 5)},
		{ranges(1, 9, 3, 4), ranges(1, 9)}, {ranges(3, 4, 1, 9), ranges(1, 9)}, {ranges(1, 2, 4, 5, 3, 3), ranges(1, 5)},
		{ranges(-3, -1), nil}, {ranges(-3, 0), ranges(0, 0)}, {ranges(-3, -1, 0, 4), ranges(0, 4)}, {ranges(-1, 4, 0, 0), ranges(0, 4)},
		{ranges(0x10fffe, 0x110005), ranges(0x10fffe, 0x10ffff)}, {ranges(0x110000, 0x110005), nil}, {ranges(0x10ffff, 0x10ffff, 0x110000, 0x110000), ranges(0x10ffff, 0x10ffff)},
		{ranges(math.MinInt32, math.MaxInt32), ranges(0, 0x10ffff)}, {ranges(math.MaxInt32, math.MaxInt32, math.MinInt32, math.MinInt32), nil},
	} {
		if l := sets.Norm(x.l); !same(l, x.want) {
			t.Errorf("Norm of %x: %x; not %x", x.l, l, x.want)
		}
	}
}

// TestNot: nothing and all, and both ends.
func TestNot(t *testing.T) {
	for _, x := range []struct{ l, want []api.Range }{
		{ranges(9, 5), ranges(0, 0x10ffff)}, {ranges(0, 0x10ffff), nil}, {ranges(-1, 0x110000), nil}, {ranges(0, 0), ranges(1, 0x10ffff)}, {ranges(0x10ffff, 0x10ffff), ranges(0, 0x10fffe)},
		{ranges(1, 0x10fffe), ranges(0, 0, 0x10ffff, 0x10ffff)}, {ranges(5, 9, 3, 6), ranges(0, 2, 10, 0x10ffff)}, {ranges(5, 5, 7, 7), ranges(0, 4, 6, 6, 8, 0x10ffff)}, {ranges(5, 5, 6, 7), ranges(0, 4, 8, 0x10ffff)},
	} {
		if l := sets.Not(x.l); !same(l, x.want) {
			t.Errorf("Not of %x: %x; not %x", x.l, l, x.want)
		}
	}
}

// TestMeet: what one list has twice, the other one does not have for that.
func TestMeet(t *testing.T) {
	for _, x := range []struct{ a, b, want []api.Range }{
		{nil, nil, nil}, {nil, ranges(1, 5), nil}, {ranges(1, 5, 1, 5), nil, nil}, {ranges(1, 5, 3, 9), ranges(20, 25, 20, 21), nil}, {ranges(1, 5), ranges(6, 9), nil}, {ranges(1, 5), ranges(5, 9), ranges(5, 5)},
		{ranges(1, 3, 5, 7), ranges(1, 7), ranges(1, 3, 5, 7)}, {ranges(1, 3, 4, 7), ranges(0, 2, 3, 9), ranges(1, 7)}, {ranges(1, 5, 3, 9), ranges(4, 4, 2, 6, 6, 6), ranges(2, 6)}, {ranges(0, 0x10ffff), ranges(-5, 0, 0x10ffff, 0x110000), ranges(0, 0, 0x10ffff, 0x10ffff)}, {ranges(-5, -1), ranges(-5, -1), nil}, {ranges(0x110000, 0x110005), ranges(0x110000, 0x110005), nil},
	} {
		if l := sets.Meet(x.a, x.b); !same(l, x.want) {
			t.Errorf("Meet of %x, %x: %x; not %x", x.a, x.b, l, x.want)
		}
		if l := sets.Meet(x.b, x.a); !same(l, x.want) {
			t.Errorf("Meet of %x, %x: %x; not %x", x.b, x.a, l, x.want)
		}
	}
}

// TestAllLists: both promises of every list of up to two ranges at the edges, and of up to three next to one another.
func TestAllLists(t *testing.T) {
	for _, l := range append(lists(2, edgePoints...), lists(3, 1, 2, 3, 4, 5, 7)...) {
		one(t, l)
		if t.Failed() {
			return
		}
	}
}

// TestAllPairs: both promises of every two lists of a range at the edges, and of up to two next to one another.
func TestAllPairs(t *testing.T) {
	for _, some := range [][][]api.Range{lists(1, edgePoints...), lists(2, 0, 1, 2, 4), lists(2, -1, 0, 0x10ffff, 0x110000)} {
		for _, a := range some {
			for _, b := range some {
				two(t, a, b)
			}
			if t.Failed() {
				return
			}
		}
	}
}

// TestLongLists: lists of many ranges, in no order, against one bool for each rune.
func TestLongLists(t *testing.T) {
	seed := uint32(1)
	next := func(n rune) rune {
		seed = seed*1664525 + 1013904223
		return rune(seed>>8) % n
	}
	list := func(n int) ([]api.Range, []bool) {
		l, has := []api.Range(nil), make([]bool, 0x110000)
		for range n {
			lo := next(0x110000)
			r := api.Range{Lo: lo, Hi: lo - 3 + next(3000)}
			l = append(l, r)
			for c := r.Lo; c <= r.Hi && c <= 0x10ffff; c++ {
				has[c] = true
			}
		}
		return l, has
	}
	for _, n := range []int{1, 10, 100, 1000, 5000} {
		a, hasA := list(n)
		b, hasB := list(n)
		for name, x := range map[string]struct {
			l    []api.Range
			want func(c int) bool
		}{
			"Norm":  {sets.Norm(a), func(c int) bool { return hasA[c] }},
			"Not":   {sets.Not(a), func(c int) bool { return !hasA[c] }},
			"Union": {sets.Union(a, b), func(c int) bool { return hasA[c] || hasB[c] }},
			"Meet":  {sets.Meet(a, b), func(c int) bool { return hasA[c] && hasB[c] }},
		} {
			if want := runs(x.want); !same(x.l, want) || sets.Count(x.l) != size(want) {
				t.Errorf("%s of %d ranges: %d ranges; not %d", name, n, len(x.l), len(want))
			}
		}
		if c := sets.Count(a); c != size(sets.Norm(a)) {
			t.Errorf("Count of %d ranges: %d", n, c)
		}
		if x, y := sets.Not(sets.Union(a, b)), sets.Meet(sets.Not(a), sets.Not(b)); !same(x, y) {
			t.Errorf("%d ranges: Not of a Union", n)
		}
	}
}

// runs are the set of the runes of which it is so.
func runs(so func(c int) bool) []api.Range {
	var l []api.Range
	for c := 0; c <= 0x10ffff; c++ {
		switch n := len(l); {
		case !so(c):
		case n > 0 && l[n-1].Hi == rune(c)-1:
			l[n-1].Hi++
		default:
			l = append(l, api.Range{Lo: rune(c), Hi: rune(c)})
		}
	}
	return l
}

// TestMemory: rule P3: lists that are handed in are not changed, nor their spare room; what comes out shares nothing with them, nor with another answer.
func TestMemory(t *testing.T) {
	roomy := func(l []api.Range) []api.Range {
		return slices.Clone(append(l, ranges(90, 80, 70, 60, 50, 40)...))[:len(l)]
	}
	for _, l := range [][]api.Range{nil, ranges(3, 5), ranges(3, 5, 8, 9), ranges(8, 9, 3, 5), ranges(0, 0x10ffff), ranges(-3, 5, 4, 6, 0x10fff0, 0x110000)} {
		calls := map[string]func(a, b []api.Range) []api.Range{
			"Norm":  func(a, b []api.Range) []api.Range { return sets.Norm(a) },
			"Not":   func(a, b []api.Range) []api.Range { return sets.Not(a) },
			"Union": sets.Union,
			"Meet":  sets.Meet,
		}
		for name, call := range calls {
			for _, other := range [][]api.Range{nil, l, ranges(0, 0x10ffff)} {
				a, b := roomy(slices.Clone(l)), roomy(slices.Clone(other))
				wasA, wasB := slices.Clone(a[:cap(a)]), slices.Clone(b[:cap(b)])
				first := call(a, b)
				want := slices.Clone(first)
				second := call(a, b)
				spoil(first)
				if !same(a[:cap(a)], wasA) || !same(b[:cap(b)], wasB) {
					t.Errorf("%s of %x, %x changes what was handed in, or shares it", name, l, other)
				}
				if !same(second, want) {
					t.Errorf("%s of %x, %x: two answers share", name, l, other)
				}
				spoil(a)
				spoil(b)
				if !same(second, want) {
					t.Errorf("%s of %x, %x keeps what was handed in", name, l, other)
				}
			}
		}
		a := roomy(slices.Clone(l))
		was := slices.Clone(a[:cap(a)])
		sets.Right(a)
		sets.Has(a, 4)
		sets.Count(a)
		if !same(a[:cap(a)], was) {
			t.Errorf("%x is changed", l)
		}
	}
}

// spoil writes over a list, and its spare room.
func spoil(l []api.Range) {
	l = l[:cap(l)]
	for i := range l {
		l[i] = api.Range{Lo: 77, Hi: 78}
	}
}
