package bitstate_test

import (
	"strings"
	"testing"

	"martello/api"
	"martello/inputs"
	. "martello/samples"
)

// row is a right program of so many instructions, each by its place.
func row(n int, inst func(pc int) api.Inst) api.Prog {
	var insts []api.Inst
	for pc := range n {
		insts = append(insts, inst(pc))
	}
	return Program(insts...)
}

// plain is a right program of so many instructions.
func plain(n int) api.Prog { return row(n, func(int) api.Inst { return Match() }) }

// TestBits: I1: instructions, times one more than there are runes: just as many as there are bits, and more.
func TestBits(t *testing.T) {
	for _, n := range []int{1, 2, 3, 7, 16, 100, 255, 256, 257, 1000, 4096, 4097, 6553, 6554, 9362, api.MaxInsts} {
		p := plain(n)
		places := api.MaxBits / n // as many as there may be
		admits(t, p, Made(t, strings.Repeat("a", places-1)), true)
		admits(t, p, Made(t, strings.Repeat("a", places)), false)
		admits(t, p, Made(t, strings.Repeat("b", (places-1)/2)), true)
		admits(t, p, Made(t, ""), true)
		finds(t, p, Made(t, strings.Repeat("a", places-1)), question{from: places - 1}, []int{places - 1, places - 1, -1, -1})
	}
	admits(t, plain(2), Made(t, strings.Repeat("a", api.MaxText)), false)
	admits(t, plain(api.MaxInsts), Made(t, strings.Repeat("a", api.MaxText)), false)
}

// TestRunes: I1: runes are counted, not bytes; bytes that are no UTF-8 are one each.
func TestRunes(t *testing.T) {
	for _, x := range []struct {
		rune    string
		runes   int
		n, more int // admitted, and one more that is not
	}{
		{"é", 32768, 1, 2}, {"é", 32767, 2, 3}, {"世", 21845, 2, 3}, {"世", 21844, 3, 4}, {"😀", 16384, 3, 4}, {"😀", 16383, 4, 5}, {"\xff", 65535, 1, 2}, {"\xff", 32767, 2, 3}, {"\xed\xa0\x80", 10922, 2, 3},
	} {
		in := Made(t, strings.Repeat(x.rune, x.runes))
		admits(t, plain(x.n), in, true)
		admits(t, plain(x.more), in, false)
	}
	admits(t, plain(1), Made(t, strings.Repeat("\xff", api.MaxText)), false)
	turned := Made(t, strings.Repeat("\xff", api.MaxText-1)).Turned() // three times as many bytes as a text may have
	admits(t, plain(1), turned, true)
	admits(t, plain(2), turned, false)
}

// TestKinds: I1: inputs of all kinds are admitted.
func TestKinds(t *testing.T) {
	for _, k := range Kinds() {
		in, e := inputs.New(k, []byte("xab"))
		if e != api.OK {
			t.Fatal(e)
		}
		p := ProgOf(t, "(a)|b")
		admits(t, p, in, true)
		finds(t, p, in, question{}, []int{1, 2, 1, 2})
	}
}

// TestWrongPrograms: I1, I2, rule P2: programs that are not right, also by what no way comes to, are not admitted, and nothing is told of them.
func TestWrongPrograms(t *testing.T) {
	in := Made(t, "ab")
	for _, p := range WrongPrograms() {
		admits(t, p, in, false)
		admits(t, p, Made(t, ""), false)
		admits(t, p, nil, false)
	}
	for _, bad := range WrongInsts() {
		p := Program(Match(), Fail(), bad)
		admits(t, p, in, false)
		p.Insts[2] = Match()
		admits(t, p, in, true)
	}
}

// TestNoInput: I1, I2: without an input nothing is told, whatever the program is.
func TestNoInput(t *testing.T) {
	for _, p := range []api.Prog{EachOp(), plain(1), plain(api.MaxInsts), ProgOf(t, ""), ProgOf(t, "a")} {
		admits(t, p, nil, false)
	}
}

// TestNotAdmitted: I2, rule P2: of too many instructions and places nothing is told, though there is a match.
func TestNotAdmitted(t *testing.T) {
	p := ProgOf(t, "a*(b)?")
	short := strings.Repeat("a", api.MaxBits/len(p.Insts)-1)
	bothFind(t, p, Made(t, short), 0, []int{0, len(short), -1, -1})
	tellsNothing(t, p, Made(t, short+"a"))
	bothFind(t, p, Made(t, short), 0, []int{0, len(short), -1, -1}) // nor has it changed anything
}

// TestNotMade: rule P1: an input that no call has made has no runes, and no call panics.
func TestNotMade(t *testing.T) {
	for _, pattern := range []string{"", "a", "a*", "^$", `\b|\B`} {
		p := ProgOf(t, pattern)
		for from := -1; from <= 1; from++ {
			for _, q := range questions(from) {
				used.Find(p, new(inputs.Input), q.from, q.anchored, q.longest)
			}
		}
	}
}
