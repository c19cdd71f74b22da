package sets_test

import (
	"math"
	"slices"
	"testing"

	"martello/api"
	"martello/sets"
)

// wide is how far the windows reach, in which lists have their ends: from 0 up, and from MaxRune down. All runes between them are alike.
const wide = 12

// has is the chapter's HAS, word by word.
func has(l []api.Range, c rune) bool {
	return slices.ContainsFunc(l, func(r api.Range) bool { return 0 <= c && c <= 0x10ffff && !(c < r.Lo) && !(c > r.Hi) })
}

// bits are a set of runes as one bool for each rune of both windows.
type bits [2 * wide]bool

// runeOf is the rune of a place in bits.
func runeOf(i int) rune {
	if i < wide {
		return rune(i)
	}
	return 0x10ffff - 2*wide + 1 + rune(i)
}

func bitsOf(has func(c rune) bool) bits {
	var b bits
	for i := range b {
		b[i] = has(runeOf(i))
	}
	return b
}

// set is the only set of these runes: runs of them, as long as they are. What lies between the windows is as the last rune of the first one.
func (b bits) set() []api.Range {
	var l []api.Range
	for i := 0; i < len(b); i++ {
		if !b[i] {
			continue
		}
		r := api.Range{Lo: runeOf(i)}
		for i+1 < len(b) && b[i+1] {
			i++
		}
		r.Hi = runeOf(i)
		l = append(l, r)
	}
	return l
}

// same tells whether two lists are the same, range by range; nil and empty are.
func same(a, b []api.Range) bool { return slices.Equal(a, b) }

// right is the chapter's A SET, word by word, in numbers that do not wrap round.
func right(l []api.Range) bool {
	for i, r := range l {
		lo, hi := int64(r.Lo), int64(r.Hi)
		if lo > hi || lo < 0 || hi < 0 || lo > 0x10ffff || hi > 0x10ffff {
			return false
		}
		if i > 0 && lo < int64(l[i-1].Hi)+2 {
			return false
		}
	}
	return true
}

// one holds all that is told of one list against the model, and P2.2 of it.
func one(t *testing.T, l []api.Range) {
	t.Helper()
	before := slices.Clone(l)
	in := bitsOf(func(c rune) bool { return has(l, c) })
	out := bitsOf(func(c rune) bool { return !has(l, c) })
	norm, not := sets.Norm(l), sets.Not(l)
	if !same(norm, in.set()) {
		t.Errorf("Norm of %x: %x; not %x", l, norm, in.set())
	}
	if !same(not, out.set()) {
		t.Errorf("Not of %x: %x; not %x", l, not, out.set())
	}
	if r := sets.Right(l); r != right(l) {
		t.Errorf("Right of %x: %v", l, r)
	}
	if !sets.Right(norm) || !sets.Right(not) {
		t.Errorf("%x: %x, %x: no sets", l, norm, not)
	}
	if n := sets.Count(l); n != size(in.set()) || n != size(norm) || n+sets.Count(not) != 0x110000 {
		t.Errorf("Count of %x: %d; not %d", l, n, size(in.set()))
	}
	for i := range in {
		if sets.Has(l, runeOf(i)) != in[i] {
			t.Errorf("Has of %x, %x: %v", l, runeOf(i), !in[i])
		}
	}
	if twice := sets.Not(not); !same(twice, norm) {
		t.Errorf("Not twice of %x: %x; not %x", l, twice, norm)
	}
	if again := sets.Norm(norm); !same(again, norm) {
		t.Errorf("Norm twice of %x: %x; not %x", l, again, norm)
	}
	if sets.Right(l) && !same(norm, l) {
		t.Errorf("Norm of the set %x: %x", l, norm)
	}
	if !same(l, before) {
		t.Errorf("%x was changed to %x", before, l)
	}
}

// two holds all that is told of two lists against the model, and P2.2 of them.
func two(t *testing.T, a, b []api.Range) {
	t.Helper()
	wasA, wasB := slices.Clone(a), slices.Clone(b)
	some := bitsOf(func(c rune) bool { return has(a, c) || has(b, c) }).set()
	both := bitsOf(func(c rune) bool { return has(a, c) && has(b, c) }).set()
	union, meet := sets.Union(a, b), sets.Meet(a, b)
	if !same(union, some) {
		t.Errorf("Union of %x, %x: %x; not %x", a, b, union, some)
	}
	if !same(meet, both) {
		t.Errorf("Meet of %x, %x: %x; not %x", a, b, meet, both)
	}
	if x, y := sets.Not(union), sets.Meet(sets.Not(a), sets.Not(b)); !same(x, y) {
		t.Errorf("%x, %x: Not of the Union %x; the Meet of both's Not %x", a, b, x, y)
	}
	if !same(a, wasA) || !same(b, wasB) {
		t.Errorf("%x, %x were changed to %x, %x", wasA, wasB, a, b)
	}
}

// size is how many runes a set has.
func size(set []api.Range) int {
	n := 0
	for _, r := range set {
		n += int(r.Hi) - int(r.Lo) + 1
	}
	return n
}

// lists are all of up to n ranges whose ends are among those.
func lists(n int, points ...rune) [][]api.Range {
	var ranges []api.Range
	for _, lo := range points {
		for _, hi := range points {
			ranges = append(ranges, api.Range{Lo: lo, Hi: hi})
		}
	}
	all := [][]api.Range{nil}
	for from := 0; n > 0; n-- {
		to := len(all)
		for _, l := range all[from:to] {
			for _, r := range ranges {
				all = append(all, append(slices.Clone(l), r))
			}
		}
		from = to
	}
	return all
}

// edgePoints are numbers at which something begins: runes or none, near the first and the last one.
var edgePoints = []rune{math.MinInt32, -2, -1, 0, 1, 2, 4, 0x10fffd, 0x10fffe, 0x10ffff, 0x110000, 0x110001, math.MaxInt32 - 1, math.MaxInt32}
