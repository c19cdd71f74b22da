package progs_test

import (
	"math"
	"slices"
	"testing"

	"martello/api"
	"martello/progs"
	. "martello/samples"
	"martello/sets"
)

// always are the Classes of every program: those of a line feed and a word's runes.
var always = []rune{0, 0xa, 0xb, 0x30, 0x3a, 0x41, 0x5b, 0x5f, 0x60, 0x61, 0x7b}

// of is a program with an instruction for each set.
func of(all ...[]api.Range) api.Prog {
	p := Program(Match())
	for i, set := range all {
		p.Insts = append(p.Insts, api.Inst{Op: api.InstSet, Out: i, Set: set})
	}
	return p
}

// classes holds Classes of a program: always, and besides these more.
func classes(t *testing.T, p api.Prog, more ...rune) {
	t.Helper()
	want := slices.Compact(slices.Sorted(slices.Values(slices.Concat(always, more))))
	if l := progs.Classes(p); !slices.Equal(l, want) {
		t.Errorf("Classes of %s: %x, not %x", shown(p), l, want)
	}
}

// TestClasses: G4: of no Sets, of Sets of all kinds: each class's first rune, rising, each once.
func TestClasses(t *testing.T) {
	classes(t, of())
	classes(t, Program(Fail()))
	classes(t, Program(Fork(0, 1), Keep(2, 1), Stand(api.AtEnd, 0)))
	classes(t, of(Ranges('b', 'd')), 'b', 'e')
	classes(t, of(Ranges('b', 'b')), 'b', 'c')
	classes(t, of(Ranges('b', 'd', 'f', 'f', 'x', 'y')), 'b', 'e', 'f', 'g', 'x', 'z')
	classes(t, of(Ranges('b', 'd'), Ranges('b', 'd'), Ranges('b', 'd')), 'b', 'e')
	classes(t, of(Ranges('b', 'd'), Ranges('e', 'f')), 'b', 'e', 'g') // they touch
	classes(t, of(Ranges('e', 'f'), Ranges('b', 'd')), 'b', 'e', 'g')
	classes(t, of(Ranges('b', 'x'), Ranges('f', 'h')), 'b', 'f', 'i', 'y') // one lies within the other
	classes(t, of(Ranges('b', 'h'), Ranges('f', 'h')), 'b', 'f', 'i')
	classes(t, of(Ranges('b', 'd'), Ranges('b', 'h')), 'b', 'e', 'i')
	classes(t, of(Ranges('b', 'h'), Ranges('f', 'k')), 'b', 'f', 'i', 'l') // they overlap
	classes(t, of(Ranges(0x80, 0x10ffff)), 0x80)
	classes(t, of(Ranges(0x10ffff, 0x10ffff)), 0x10ffff)
	classes(t, of(Ranges(0x80, 0x10fffe)), 0x80, 0x10ffff)
	classes(t, of(Ranges(0x80, 0x10fffe), Ranges(0x10ffff, 0x10ffff)), 0x80, 0x10ffff)
	classes(t, of(Ranges(0, 0)), 1)
	classes(t, of(Ranges(1, 1)), 1, 2)
	classes(t, of(Ranges(0, 0x10ffff)))
	classes(t, of(Ranges(0, 9, 0xb, 0x10ffff)))
	classes(t, of(Ranges('0', '9', 'A', 'Z', '_', '_', 'a', 'z')))
	classes(t, of(Ranges('0', '8', 'B', 'Z', '_', '`', 'b', 'y')), '9', 'B', 'b', 'z')
	classes(t, of(Ranges(0xd800, 0xdfff, 0xfffd, 0xfffd)), 0xd800, 0xe000, 0xfffd, 0xfffe)
}

// TestClassesOfAll: G4: all Insts count, those too to which no way leads.
func TestClassesOfAll(t *testing.T) {
	p := Program(Read(0, 'b', 'b'), Read(0, 'd', 'd'), Match(), Read(3, 'f', 'f'))
	classes(t, p, 'b', 'c', 'd', 'e', 'f', 'g')
	p.Start = 3
	classes(t, p, 'b', 'c', 'd', 'e', 'f', 'g')
}

// told is what a program tells of a rune, and a place beside it: which Sets have it, whether it is a word's, and a line feed.
func told(p api.Prog, c rune) [3]int {
	var x [3]int
	for i, inst := range p.Insts {
		if sets.Has(inst.Set, c) {
			x[0] |= 1 << i
		}
	}
	if sets.Has(Ranges('0', '9', 'A', 'Z', '_', '_', 'a', 'z'), c) {
		x[1] = 1
	}
	if c == 10 {
		x[2] = 1
	}
	return x
}

// TestAlike: P12.2: rune by rune: a class begins just where another thing is told of a rune than of the one below it, and Class tells which.
func TestAlike(t *testing.T) {
	for _, p := range []api.Prog{
		of(), EachOp(), of(Ranges('b', 'd'), Ranges('e', 'f'), Ranges('c', 'x')), of(Ranges(0, 9, 0xb, 0x10ffff), Ranges(0xa, 0xa)), of(Ranges(0x10ffff, 0x10ffff), Ranges(0x10fffe, 0x10fffe), Ranges(0, 0x10ffff), Ranges(0, 0)),
		of(Ranges('k', 'k', 0x212a, 0x212a), Ranges('0', '9', 0x660, 0x669), Ranges(0x100, 0xd7ff), Ranges(0xd800, 0xdfff), Ranges(0xe000, 0x10ffff)), of(Ranges('0', '8', 'B', 'Z', '_', '`', 'b', 'y'), Ranges('@', '@', '[', '^'), Ranges(9, 11)),
	} {
		l := progs.Classes(p)
		number, was := -1, [3]int{-1}
		for c := rune(0); c <= 0x10ffff; c++ {
			x := told(p, c)
			if x != was {
				number, was = number+1, x
				if number >= len(l) || l[number] != c {
					t.Fatalf("%v: %x: no class begins at %x", p, l, c)
				}
			}
			if n := progs.Class(l, c); n != number {
				t.Fatalf("%v: Class of %x: %d, not %d", p, c, n, number)
			}
		}
		if number != len(l)-1 {
			t.Errorf("%v: %x: the last one is %d", p, l, number)
		}
	}
}

// TestClass: G4: runes ahead of all, at each one, between two, behind the last.
func TestClass(t *testing.T) {
	l := []rune{5, 6, 9, 'a', 0x10ffff}
	for c, want := range map[rune]int{0: -1, 4: -1, 5: 0, 6: 1, 7: 1, 8: 1, 9: 2, 10: 2, 'Z': 2, 'a': 3, 'b': 3, 0xd800: 3, 0x10fffe: 3, 0x10ffff: 4} {
		if n := progs.Class(l, c); n != want {
			t.Errorf("%x: %d, not %d", c, n, want)
		}
	}
	if n := progs.Class(l[:4], 0x10ffff); n != 3 {
		t.Error(n)
	}
	for i, c := range always {
		if n := progs.Class(always, c); n != i {
			t.Errorf("%x: %d, not %d", c, n, i)
		}
	}
}

// TestClassNoRune: G4: what is no rune has no class, whatever the list has.
func TestClassNoRune(t *testing.T) {
	for _, c := range []rune{-1, -2, 0x110000, 0x110001, math.MinInt32, math.MaxInt32} {
		for _, l := range [][]rune{nil, {0}, always, {-5, -1}, {math.MinInt32, math.MaxInt32}, {0x110000}} {
			if n := progs.Class(l, c); n != -1 {
				t.Errorf("%x of %x: %d", c, l, n)
			}
		}
	}
}

// TestClassAnyList: G4: a list may be none, or in no order, with the same rune twice, or with what is no rune: all that are not above count.
func TestClassAnyList(t *testing.T) {
	for _, x := range []struct {
		l    []rune
		c    rune
		want int
	}{
		{nil, 0, -1}, {nil, 0x10ffff, -1}, {[]rune{}, 'a', -1}, {[]rune{7}, 6, -1}, {[]rune{7}, 7, 0}, {[]rune{0}, 0, 0},
		{[]rune{5, 1, 3, 1}, 3, 2}, {[]rune{5, 1, 3, 1}, 0, -1}, {[]rune{5, 1, 3, 1}, 1, 1}, {[]rune{5, 1, 3, 1}, 9, 3}, {[]rune{9, 8, 7}, 8, 1}, {[]rune{9, 8, 7}, 7, 0}, {[]rune{4, 4, 4}, 4, 2}, {[]rune{4, 4, 4}, 3, -1},
		{[]rune{-1, -9, 2}, 0, 1}, {[]rune{math.MinInt32, math.MaxInt32, 0x110000}, 0x10ffff, 0},
	} {
		if n := progs.Class(x.l, x.c); n != x.want {
			t.Errorf("%x of %x: %d, not %d", x.c, x.l, n, x.want)
		}
	}
}
