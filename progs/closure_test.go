package progs_test

import (
	"slices"
	"testing"

	"martello/api"
	"martello/inputs"
	"martello/progs"
	. "martello/samples"
)

// TestNoPcs: G2: from no instructions one comes to none.
func TestNoPcs(t *testing.T) {
	for _, p := range []api.Prog{EachOp(), Program(Match()), Program(Read(0, 'a', 'a'))} {
		bothClose(t, p, nil, 63, nil, false)
		bothClose(t, p, []int{}, 0, nil, false)
		bothClose(t, p, make([]int, 0, 5), 63, nil, false)
	}
}

// TestEachOp: G2: what one comes to from an instruction of each Op.
func TestEachOp(t *testing.T) {
	p := Program(Match(), Fail(), Read(0, 'a', 'a'), Read(2, 'b', 'b'), Fork(3, 2), Fork(2, 3), Keep(2, 3), Stand(api.AtEnd, 2), Fork(1, 2), Fork(7, 6))
	for _, x := range []struct {
		pc      int
		at      api.At
		want    []int
		matches bool
	}{
		{0, 0, nil, true}, {1, 0, nil, false}, {2, 0, []int{2}, false}, {3, 0, []int{3}, false},
		{4, 0, []int{3, 2}, false}, {5, 0, []int{2, 3}, false}, {6, 0, []int{3}, false},
		{7, 0, nil, false}, {7, api.AtEnd, []int{2}, false}, {8, 63, []int{2}, false},
		{9, api.AtBegin, []int{3}, false}, {9, api.AtEnd + api.AtNoWord, []int{2, 3}, false},
	} {
		bothClose(t, p, []int{x.pc}, x.at, x.want, x.matches)
	}
}

// TestOp: G2: an instruction of each Op that leads to itself, where it may.
func TestOp(t *testing.T) {
	for _, inst := range []api.Inst{Fail(), Fork(0, 0), Keep(3, 0), Stand(api.AtWord, 0)} {
		bothClose(t, Program(inst), []int{0}, 63, nil, false)
		bothClose(t, Program(inst), []int{0, 0}, 0, nil, false)
	}
	bothClose(t, Program(Match()), []int{0}, 0, nil, true)
	bothClose(t, Program(Read(0, 'a', 'a')), []int{0}, 63, []int{0}, false)
}

// TestAtOne: G2: each of the six, where the place is that alone, all but that, nothing, all, and what there is not.
func TestAtOne(t *testing.T) {
	for _, one := range SixAts() {
		p := Program(Match(), Read(0, 'a', 'a'), Stand(one, 1), Stand(one, 0), Fork(2, 3))
		for _, at := range append([]api.At{0, one, 63, 63 - one, 64, 64 + one, -1, ^one}, SixAts()...) {
			if so := at&one != 0; so {
				bothClose(t, p, []int{2}, at, []int{1}, false)
				bothClose(t, p, []int{4}, at, []int{1}, true)
			} else {
				bothClose(t, p, []int{2}, at, nil, false)
				bothClose(t, p, []int{4}, at, nil, false)
			}
		}
	}
}

// TestAtPlaces: G2: with what inputs tell of a text's places: which of the six each is.
func TestAtPlaces(t *testing.T) {
	var insts []api.Inst
	for i, at := range SixAts() {
		insts = append(insts, Stand(at, 6+i))
	}
	for range SixAts() {
		insts = append(insts, Read(0, 'a', 'a'))
	}
	in, e := inputs.New(api.KindText, []byte("a b\nc"))
	if e != api.OK {
		t.Fatal(e)
	}
	const begin, end, beginLine, endLine, word, noWord = 6, 7, 8, 9, 10, 11
	for at, want := range [][]int{{begin, beginLine, word}, {word}, {word}, {endLine, word}, {beginLine, word}, {end, endLine, word}, nil} {
		bothClose(t, Program(insts...), []int{0, 1, 2, 3, 4, 5}, in.At(at), want, false)
	}
	in, e = inputs.New(api.KindText, []byte("\n "))
	if e != api.OK {
		t.Fatal(e)
	}
	for at, want := range [][]int{{begin, beginLine, endLine, noWord}, {beginLine, noWord}, {end, endLine, noWord}} {
		bothClose(t, Program(insts...), []int{0, 1, 2, 3, 4, 5}, in.At(at), want, false)
	}
}

// TestOrder: G2: what stands behind Out comes ahead of what stands behind Arg, however deep; and each the first time.
func TestOrder(t *testing.T) {
	a, b, c, d := Read(0, 'a', 'a'), Read(1, 'b', 'b'), Read(2, 'c', 'c'), Read(3, 'd', 'd')
	for _, x := range []struct {
		from int
		p    api.Prog
		want []int
	}{
		{4, Program(a, b, c, d, Fork(5, 6), Fork(0, 1), Fork(2, 3)), []int{0, 1, 2, 3}},
		{4, Program(a, b, c, d, Fork(6, 5), Fork(1, 0), Fork(3, 2)), []int{3, 2, 1, 0}},
		{4, Program(a, b, c, d, Fork(5, 3), Fork(6, 2), Fork(0, 1)), []int{0, 1, 2, 3}},
		{4, Program(a, b, c, d, Fork(3, 5), Fork(2, 6), Fork(1, 0)), []int{3, 2, 1, 0}},
		{4, Program(a, b, c, d, Fork(5, 6), Fork(0, 1), Fork(0, 1)), []int{0, 1}},
		{4, Program(a, b, c, d, Fork(5, 6), Fork(1, 0), Fork(0, 2)), []int{1, 0, 2}},
		{4, Program(a, b, c, d, Fork(5, 5), Keep(2, 6), Fork(3, 0)), []int{3, 0}},
		{4, Program(a, b, c, d, Fork(5, 1), Keep(2, 6), Stand(api.AtEnd, 0)), []int{0, 1}},
		{4, Program(a, b, c, d, Fork(5, 1), Keep(2, 6), Stand(api.AtBegin, 0)), []int{1}},
		{4, Program(a, b, c, Fail(), Fork(5, 1), Fork(3, 6), Fork(3, 0)), []int{0, 1}},
	} {
		bothClose(t, x.p, []int{x.from}, api.AtEnd, x.want, false)
	}
}

// TestMetAhead: G2: what was come to is not come to again, though its own Arg is not gone to yet: that comes when all behind its Out is done with.
func TestMetAhead(t *testing.T) {
	p := Program(Fork(1, 2), Fork(0, 3), Read(0, 'a', 'a'), Read(0, 'b', 'b'))
	bothClose(t, p, []int{0}, 0, []int{3, 2}, false)
	bothClose(t, p, []int{1}, 0, []int{2, 3}, false)
	bothClose(t, p, []int{2, 0}, 0, []int{2, 3}, false)
	bothClose(t, p, []int{3, 1}, 0, []int{3, 2}, false)
}

// TestRings: G2: InstAlts, and others, that lead to one another.
func TestRings(t *testing.T) {
	a, b, c := Read(0, 'a', 'a'), Read(0, 'b', 'b'), Read(0, 'c', 'c')
	ring := Program(Fork(1, 3), Fork(2, 4), Fork(0, 5), a, b, c)
	bothClose(t, ring, []int{0}, 0, []int{5, 4, 3}, false)
	bothClose(t, ring, []int{1}, 0, []int{3, 5, 4}, false)
	bothClose(t, ring, []int{2}, 0, []int{4, 3, 5}, false)
	back := Program(Fork(3, 1), Fork(4, 2), Fork(5, 0), a, b, c)
	bothClose(t, back, []int{0}, 0, []int{3, 4, 5}, false)
	bothClose(t, back, []int{2}, 0, []int{5, 3, 4}, false)
	bothClose(t, Program(Fork(1, 2), Fork(2, 0), Fork(0, 1)), []int{0, 1, 2}, 0, nil, false)
	bothClose(t, Program(Keep(2, 1), Keep(3, 2), Stand(api.AtEnd, 0)), []int{1}, api.AtEnd, nil, false)
	bothClose(t, Program(Fork(0, 1), Match()), []int{0}, 0, nil, true)
	bothClose(t, Program(Fork(0, 1), Keep(2, 0)), []int{1}, 0, nil, false)
}

// TestBehindMatch: G2: without longest, what stands behind the first InstMatch is left out; what stands ahead of it is not.
func TestBehindMatch(t *testing.T) {
	p := Program(Match(), Read(0, 'a', 'a'), Read(0, 'b', 'b'), Fork(1, 0), Fork(0, 1), Fork(3, 2), Fork(2, 4), Match(), Fork(7, 5), Keep(2, 0), Fork(9, 1), Stand(api.AtEnd, 0), Fork(11, 1))
	for _, x := range []struct {
		pcs           []int
		first, longer []int
	}{
		{[]int{0}, nil, nil}, {[]int{3}, []int{1}, []int{1}}, {[]int{4}, nil, []int{1}}, {[]int{5}, []int{1}, []int{1, 2}}, {[]int{6}, []int{2}, []int{2, 1}}, {[]int{8}, nil, []int{1, 2}}, {[]int{10}, nil, []int{1}}, {[]int{12}, nil, []int{1}},
		{[]int{0, 1}, nil, []int{1}}, {[]int{1, 0}, []int{1}, []int{1}}, {[]int{1, 0, 2}, []int{1}, []int{1, 2}}, {[]int{2, 1, 0}, []int{2, 1}, []int{2, 1}}, {[]int{3, 2}, []int{1}, []int{1, 2}}, {[]int{2, 3, 1}, []int{2, 1}, []int{2, 1}}, {[]int{7, 0, 1}, nil, []int{1}},
	} {
		closes(t, p, x.pcs, api.AtEnd, false, x.first, true)
		closes(t, p, x.pcs, api.AtEnd, true, x.longer, true)
	}
	closes(t, p, []int{12}, api.AtBegin, false, []int{1}, false) // the match is not come to there
	closes(t, p, []int{12, 3, 2}, api.AtBegin, false, []int{1}, true)
}

// TestSeveral: G2: from several, one behind the other, each once, also the same one twice.
func TestSeveral(t *testing.T) {
	p := Program(Read(0, 'a', 'a'), Read(1, 'b', 'b'), Read(2, 'c', 'c'), Fork(0, 1), Fork(1, 2), Fail(), Keep(2, 4))
	for _, x := range [][2][]int{
		{{0, 1, 2}, {0, 1, 2}}, {{2, 1, 0}, {2, 1, 0}}, {{1, 0, 2}, {1, 0, 2}}, {{0, 0}, {0}}, {{0, 1, 0, 1}, {0, 1}}, {{1, 1, 0, 0, 1}, {1, 0}},
		{{3, 4}, {0, 1, 2}}, {{4, 3}, {1, 2, 0}}, {{3, 3}, {0, 1}}, {{2, 3}, {2, 0, 1}}, {{1, 3}, {1, 0}}, {{3, 1}, {0, 1}}, {{6, 4, 3}, {1, 2, 0}}, {{4, 6}, {1, 2}}, {{5, 0}, {0}}, {{0, 5, 5, 2}, {0, 2}}, {{5}, nil},
	} {
		bothClose(t, p, x[0], 0, x[1], false)
	}
	bothClose(t, p, slices.Repeat([]int{3, 2, 5}, 100000), 0, []int{0, 1, 2}, false)
}

// TestNoPlaces: G2: nothing, if one of those is no instruction's place, wherever it stands among them.
func TestNoPlaces(t *testing.T) {
	p := Program(Match(), Read(0, 'a', 'a'), Fork(1, 0))
	for _, bad := range append([]int{3, 4}, FarInts()...) {
		for _, pcs := range [][]int{{bad}, {bad, 1}, {1, bad}, {0, bad}, {1, bad, 0}, {2, 2, bad}, {bad, bad}} {
			for _, longest := range []bool{false, true} {
				if reads, is := progs.Closure(p, pcs, 63, longest); len(reads) > 0 || is {
					t.Errorf("%v: %v, %t", pcs, reads, is)
				}
			}
		}
	}
}
