package tables_test

import (
	"math"
	"slices"
	"strings"
	"testing"

	"martello/api"
	"martello/sets"
	"martello/tables"
)

// The calls of the chapter, by their signatures.
var (
	_ func(string) ([]api.Range, bool) = tables.Named
	_ func(rune) []rune                = tables.Orbit
	_ func([]api.Range) []api.Range    = tables.Fold
)

// noRunes are numbers below 0, and above 10FFFF.
var noRunes = []rune{math.MinInt32, math.MinInt32 + 1, -0x212a, -33, -32, -2, -1, 0x110000, 0x110001, 0x110041, 0x7fffff00, math.MaxInt32 - 1, math.MaxInt32}

// TestExamples: the chapter's table.
func TestExamples(t *testing.T) {
	for c, want := range map[rune][]rune{'a': {'A', 'a'}, 0x212a: {0x4b, 0x6b, 0x212a}, '1': {0x31}} {
		if o := tables.Orbit(c); !same(o, want) {
			t.Errorf("Orbit of %x: %x", c, o)
		}
	}
	if f := tables.Fold(ranges('k', 'k')); !same(f, ranges(0x4b, 0x4b, 0x6b, 0x6b, 0x212a, 0x212a)) {
		t.Errorf("Fold of k: %x", f)
	}
	if l, ok := tables.Named("Lu"); !ok || !same(l, ranges(0x41, 0x5a, 0xc0, 0xd6, 0xd8, 0xde, 0x391, 0x3a1, 0x3a3, 0x3a9, 0x410, 0x42f)) {
		t.Errorf("Lu: %x, %v", l, ok)
	}
	if l, ok := tables.Named("lu"); ok || len(l) != 0 {
		t.Errorf("lu: %x, %v", l, ok)
	}
}

// TestNamed: B1: every name of the chapter, with its whole set.
func TestNamed(t *testing.T) {
	all := namesAndSets()
	if len(all) != 13 {
		t.Errorf("%d names", len(all))
	}
	for name, want := range all {
		l, ok := tables.Named(name)
		if !ok || !same(l, want) {
			t.Errorf("%s: %x, %v; not %x", name, l, ok, want)
		}
		if !sets.Right(l) {
			t.Errorf("%s: no set: %x", name, l)
		}
	}
}

// TestNoName: B1: what is nearly a name is none, and tells nothing.
func TestNoName(t *testing.T) {
	all := namesAndSets()
	none := []string{"", " ", "^", "\x00", "\xff", "Any", "M", "C", "Lt", "Lm", "Lo", "Nl", "No", "Sc", "Zs", "Co", "Latn", "Hebrew", "LuLl", "Lu,Ll", "Lu|Ll", "Ｌ", "\u216c", strings.Repeat("L", 100000)}
	for name := range all {
		none = append(none, strings.ToLower(name), strings.ToUpper(name), name+" ", " "+name, name+"\n", name+"\x00", name+"x", name+"u", "^"+name, name+name, name[1:], name[:len(name)-1], name+"\xff")
	}
	for _, name := range none {
		if all[name] != nil {
			continue // a name without its last letter may be another one
		}
		if l, ok := tables.Named(name); ok || len(l) != 0 {
			t.Errorf("%.20q: %x, %v", name, l, ok)
		}
	}
}

// TestOrbit: B2, and the first of P3.2: of each rune that there is.
func TestOrbit(t *testing.T) {
	all := allOrbits()
	for c := rune(0); c <= 0x10ffff; c++ {
		o := tables.Orbit(c)
		if !same(o, all.of(c)) {
			t.Fatalf("Orbit of %x: %x; not %x", c, o, all.of(c))
		}
		for _, d := range o {
			if p := tables.Orbit(d); !same(p, o) {
				t.Errorf("Orbit of %x: %x; of %x, in it: %x", c, o, d, p)
			}
		}
		if !slices.Contains(o, c) || !slices.IsSorted(o) {
			t.Errorf("Orbit of %x: %x", c, o)
		}
	}
}

// TestOrbitWritten: orbits of those that are alike by no rule, of both ends of each rule, and of their neighbours.
func TestOrbitWritten(t *testing.T) {
	for _, want := range [][]rune{
		{0x4b, 0x6b, 0x212a}, {0x53, 0x73, 0x17f}, {0xc5, 0xe5, 0x212b}, {0xb5, 0x39c, 0x3bc}, {0x3a3, 0x3c2, 0x3c3}, {0xdf, 0x1e9e}, {0xff, 0x178},
		{0x41, 0x61}, {0x5a, 0x7a}, {0xc0, 0xe0}, {0xd6, 0xf6}, {0xd8, 0xf8}, {0xde, 0xfe}, {0x391, 0x3b1}, {0x3a1, 0x3c1}, {0x3a4, 0x3c4}, {0x3a9, 0x3c9}, {0x410, 0x430}, {0x42f, 0x44f},
		{0}, {0x21}, {0x2b}, {0x40}, {0x5b}, {0x60}, {0x7b}, {0xbf}, {0xd7}, {0xf7}, {0x100}, {0x101}, {0x130}, {0x131}, {0x390}, {0x3a2}, {0x3b0}, {0x3aa}, {0x3ca}, {0x386}, {0x3ac}, {0x3f4}, {0x2126}, {0x40f}, {0x400}, {0x450}, {0x45f}, {0x1e9f}, {0xd800}, {0xdfff}, {0xfffd}, {0x10ffff},
	} {
		for _, c := range want {
			if o := tables.Orbit(c); !same(o, want) {
				t.Errorf("Orbit of %x: %x; not %x", c, o, want)
			}
		}
	}
}

// TestOrbitOfNone: B2: what is no rune has no orbit.
func TestOrbitOfNone(t *testing.T) {
	for _, c := range noRunes {
		if o := tables.Orbit(c); len(o) != 0 {
			t.Errorf("Orbit of %x: %x", c, o)
		}
	}
}

// fold holds Fold of a list against the model, and all of P3.2.
func fold(t *testing.T, all orbits, l []api.Range) {
	t.Helper()
	before := slices.Clone(l)
	f := tables.Fold(l)
	if want := all.folded(l); !same(f, want) {
		t.Errorf("Fold of %x: %x; not %x", l, f, want)
	}
	if !sets.Right(f) {
		t.Errorf("Fold of %x: no set: %x", l, f)
	}
	if again := tables.Fold(f); !same(again, f) {
		t.Errorf("Fold twice of %x: %x; once: %x", l, again, f)
	}
	if had := sets.Meet(l, f); !same(had, sets.Norm(l)) {
		t.Errorf("%x: its Fold has of it %x alone", l, had)
	}
	if !same(l, before) {
		t.Errorf("%x was changed to %x", before, l)
	}
}

// TestFoldWritten: sets, and lists that are none.
func TestFoldWritten(t *testing.T) {
	for _, x := range []struct{ l, want []api.Range }{
		{nil, nil}, {[]api.Range{}, nil},
		{ranges('a', 'c'), ranges('A', 'C', 'a', 'c')}, {ranges('A', 'Z'), ranges('A', 'Z', 'a', 'z', 0x17f, 0x17f, 0x212a, 0x212a)}, {ranges('0', '9'), ranges('0', '9')},
		{ranges(0x17f, 0x17f), ranges('S', 'S', 's', 's', 0x17f, 0x17f)}, {ranges(0xb5, 0xb5), ranges(0xb5, 0xb5, 0x39c, 0x39c, 0x3bc, 0x3bc)}, {ranges(0x3c2, 0x3c2), ranges(0x3a3, 0x3a3, 0x3c2, 0x3c3)}, {ranges(0xdf, 0xdf), ranges(0xdf, 0xdf, 0x1e9e, 0x1e9e)}, {ranges(0x178, 0x178), ranges(0xff, 0xff, 0x178, 0x178)}, {ranges(0x212b, 0x212b), ranges(0xc5, 0xc5, 0xe5, 0xe5, 0x212b, 0x212b)},
		{ranges(0x410, 0x41f, 0x440, 0x44f), ranges(0x410, 0x44f)}, {ranges('a', 'a', 'B', 'B'), ranges('A', 'B', 'a', 'b')},
		{ranges('z', 'a'), nil}, {ranges('z', 'a', 'b', 'b'), ranges('B', 'B', 'b', 'b')}, // they fall
		{ranges('c', 'd', 'a', 'b'), ranges('A', 'D', 'a', 'd')}, {ranges('a', 'b', 'c', 'd'), ranges('A', 'D', 'a', 'd')}, // they touch
		{ranges('a', 'c', 'b', 'd'), ranges('A', 'D', 'a', 'd')}, {ranges('a', 'd', 'b', 'b'), ranges('A', 'D', 'a', 'd')}, {ranges('k', 'k', 'K', 'K', 'k', 'k'), ranges('K', 'K', 'k', 'k', 0x212a, 0x212a)}, // they overlap
		{ranges(-5, -1), nil}, {ranges(0x110000, math.MaxInt32), nil}, {ranges(0x110041, 0x110041), nil}, {ranges(-5, 'A'), ranges(0, 'A', 'a', 'a')}, {ranges(0x1e9e, math.MaxInt32), ranges('K', 'K', 'k', 'k', 0xc5, 0xc5, 0xdf, 0xdf, 0xe5, 0xe5, 0x1e9e, 0x10ffff)},
		{ranges(0, 0x10ffff), ranges(0, 0x10ffff)}, {ranges(math.MinInt32, math.MaxInt32), ranges(0, 0x10ffff)}, {ranges(math.MaxInt32, math.MinInt32), nil}, {ranges(0, 'a', 'c', 0x10ffff), ranges(0, 0x10ffff)}, {ranges(0, '@', '[', '`', '{', 0x10ffff), ranges(0, '@', 'K', 'K', 'S', 'S', '[', '`', 'k', 'k', 's', 's', '{', 0x10ffff)},
	} {
		if f := tables.Fold(x.l); !same(f, x.want) {
			t.Errorf("Fold of %x: %x; not %x", x.l, f, x.want)
		}
		fold(t, allOrbits(), x.l)
	}
}

// TestFoldNumbers: of each letter, its neighbours, and what is no rune, alone.
func TestFoldNumbers(t *testing.T) {
	all := allOrbits()
	for _, c := range all.letters() {
		for d := c - 1; d <= c+1; d++ {
			fold(t, all, ranges(d, d))
			if f := tables.Fold(ranges(d, d)); sets.Count(f) != len(tables.Orbit(d)) {
				t.Errorf("Fold of %x: %x", d, f)
			}
		}
	}
	for _, c := range noRunes {
		if f := tables.Fold(ranges(c, c)); len(f) != 0 {
			t.Errorf("Fold of %x: %x", c, f)
		}
	}
}

// TestFoldRanges: of each range from a letter, or a neighbour of one, to another such.
func TestFoldRanges(t *testing.T) {
	all := allOrbits()
	var ends []rune
	for i, c := range all.letters() {
		if i%10 == 0 || all[c-1] == nil || all[c+1] == nil {
			ends = append(ends, c-1, c)
		}
	}
	for _, lo := range ends {
		for _, hi := range ends {
			fold(t, all, ranges(lo, hi))
		}
		if t.Failed() {
			return
		}
	}
}

// TestFoldLists: of all lists of two ranges with these ends: they fall, touch, overlap, and are no runes.
func TestFoldLists(t *testing.T) {
	all := allOrbits()
	ends := []rune{math.MinInt32, -1, 0, 'A', 'K', 'b', 'k', 0x212a, 0x10ffff, 0x110000}
	var some []api.Range
	for _, lo := range ends {
		for _, hi := range ends {
			some = append(some, api.Range{Lo: lo, Hi: hi})
		}
	}
	for _, a := range some {
		for _, b := range some {
			fold(t, all, []api.Range{a, b})
		}
		if t.Failed() {
			return
		}
	}
}

// TestFoldNamed: of the chapter's own sets, and of all that is not in them.
func TestFoldNamed(t *testing.T) {
	for _, l := range namesAndSets() {
		fold(t, allOrbits(), l)
		fold(t, allOrbits(), sets.Not(l))
	}
}

// TestFoldLong: of many ranges, in no order.
func TestFoldLong(t *testing.T) {
	all, seed := allOrbits(), uint32(1)
	next := func(n rune) rune {
		seed = seed*1664525 + 1013904223
		return rune(seed>>8) % n
	}
	for _, n := range []int{10, 100, 1000} {
		for _, top := range []rune{0x80, 0x500, 0x2200, 0x110000} {
			var l []api.Range
			for range n {
				lo := next(top)
				l = append(l, api.Range{Lo: lo, Hi: lo - 2 + next(6)})
			}
			fold(t, all, l)
		}
	}
}

// TestMemory: rule P3: what was handed in is not changed, nor its spare room, and not kept; what is told may be changed, to its last room.
func TestMemory(t *testing.T) {
	for name, want := range namesAndSets() {
		l, _ := tables.Named(name)
		other, _ := tables.Named(name)
		spoil(l, api.Range{Lo: 77, Hi: 78})
		again, ok := tables.Named(name)
		if !ok || !same(other, want) || !same(again, want) {
			t.Errorf("%s: %x, %x, when another answer was changed", name, other, again)
		}
	}
	all := allOrbits()
	for _, c := range append(all.letters(), 0, '1', 0x10ffff) {
		o, other := tables.Orbit(c), tables.Orbit(c)
		spoil(o, 77)
		if again := tables.Orbit(c); !same(other, all.of(c)) || !same(again, all.of(c)) {
			t.Errorf("Orbit of %x: %x, %x, when another answer was changed", c, other, again)
		}
	}
	for _, l := range [][]api.Range{nil, ranges('k', 'k'), ranges('0', '9'), ranges(0, 0x10ffff), ranges('A', 'Z', 'a', 'z'), ranges('x', 'z', 'a', 'c'), ranges(5, 4, -3, 'b', 'a', 0x110000)} {
		roomy := slices.Clone(append(slices.Clone(l), ranges('z', 'a', 90, 80, 70, 60, 50, 40)...))
		was := slices.Clone(roomy)
		given := roomy[:len(l)]
		first, second, want := tables.Fold(given), tables.Fold(given), all.folded(l)
		spoil(first, api.Range{Lo: 77, Hi: 78})
		if !same(roomy, was) {
			t.Errorf("Fold of %x changes what was handed in, or shares it", l)
		}
		spoil(given, api.Range{Lo: 77, Hi: 78})
		if !same(second, want) || !same(tables.Fold(l), want) {
			t.Errorf("Fold of %x: its answer hangs on another one, or on what was handed in", l)
		}
	}
}

// spoil writes over a list, and its spare room.
func spoil[E any](l []E, by E) {
	l = l[:cap(l)]
	for i := range l {
		l[i] = by
	}
}
