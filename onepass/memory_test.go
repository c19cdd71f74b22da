package onepass_test

import (
	"fmt"
	"slices"
	"testing"

	"martello/api"
	"martello/inputs"
	"martello/onepass"
	. "martello/samples"
)

// memoryProgs are programs that are admitted, and such that are not.
func memoryProgs(t *testing.T) []api.Prog {
	all := []api.Prog{{}, EachOp(), behindBegin(EachOp()), Program(Read(9, 'a', 'a')), {Insts: []api.Inst{Fork(0, 0)}, Caps: 3}}
	for _, pattern := range []string{"^a(b*)c", "^(a)*?", "^(?:(a)|(b)|[c-x])*", "^$", "a", "^a*a", "^((a)b(c(d)?)?)?", `^[^\x{0}-\x{10ffff}]`, "^[^b]*(b)"} {
		p := ProgOf(t, pattern)
		all = append(all, p)
	}
	return all
}

// memoryInputs are inputs of all kinds, and none.
func memoryInputs(t *testing.T) []*inputs.Input {
	return []*inputs.Input{nil, Made(t, ""), Made(t, "abbc"), Made(t, "aab"), Made(t, "\xffab"), Made(t, "abcdabcd")}
}

// answers are all that is told of a program, as a text, and its fits.
func answers(p api.Prog, ins []*inputs.Input) (text string, fits [][]int) {
	text = fmt.Sprint(onepass.Admits(p))
	for _, in := range ins {
		for _, longest := range []bool{false, true} {
			fit, is, steps := onepass.Match(p, in, longest)
			text += fmt.Sprint(" ", fit, is, steps)
			fits = append(fits, fit)
		}
	}
	return text, fits
}

// TestUnchanged: rule P3: programs, and their spare room, and inputs stay as they were, while they are asked, and when what was told is written over.
func TestUnchanged(t *testing.T) {
	ins := memoryInputs(t)
	was := shownInputs(ins)
	for _, p := range memoryProgs(t) {
		p = RoomyProg(p)
		before := fmt.Sprint(WholeProg(p))
		_, fits := answers(p, ins)
		for range 2 {
			if now := fmt.Sprint(WholeProg(p)); now != before {
				t.Errorf("%s; was %s", now, before)
			}
			if now := shownInputs(ins); now != was {
				t.Errorf("%s; was %s", now, was)
			}
			Fill(fits, -77)
		}
	}
}

// shownInputs are inputs as a text, with all that they have.
func shownInputs(ins []*inputs.Input) string {
	text := ""
	for _, in := range ins {
		if in != nil {
			text += fmt.Sprint(*in)
		}
	}
	return text
}

// TestNotKept: rule P3: what was told stays as it was when the program is written over, and the program may be another one then.
func TestNotKept(t *testing.T) {
	ins := memoryInputs(t)
	for _, p := range memoryProgs(t) {
		p = RoomyProg(p)
		_, fits := answers(p, ins)
		was := fmt.Sprint(fits)
		SpoilProg(p)
		if now := fmt.Sprint(fits); now != was {
			t.Errorf("%s; was %s", now, was)
		}
	}
	p := Program(Stand(api.AtBegin, 1), Read(2, 'a', 'a'), Match())
	bothMatch(t, p, Made(t, "a"), []int{0, 1, -1, -1})
	p.Insts[1].Set[0] = api.Range{Lo: 'b', Hi: 'b'}
	bothMatch(t, p, Made(t, "a"), nil)
	p.Insts[1] = Fork(1, 2)
	admits(t, p, false)
}

// TestOwnLists: rule P3: no two fits that are told share memory, be it spare room.
func TestOwnLists(t *testing.T) {
	ins := memoryInputs(t)
	for _, p := range memoryProgs(t) {
		_, fits := answers(p, ins)
		_, more := answers(p, ins)
		if !Apart(slices.Concat(fits, more)) {
			t.Fatalf("%s: fits are shared", shown(p))
		}
	}
}

// TestToldAgain: rule P3: what is told, the steps too, hangs on the arguments alone, whatever was asked ahead, and though what was told is written over.
func TestToldAgain(t *testing.T) {
	all, ins := memoryProgs(t), memoryInputs(t)
	var first []string
	for _, p := range all {
		text, fits := answers(p, ins)
		first = append(first, text)
		Fill(fits, -77)
	}
	for i, p := range slices.Backward(all) {
		for _, p := range []api.Prog{p, RoomyProg(p)} {
			if again, _ := answers(p, memoryInputs(t)); again != first[i] {
				t.Errorf("%s: %s; was %s", shown(p), again, first[i])
			}
		}
	}
}

// TestAtOnce: rule P3: calls at the same time, of the same programs and inputs, tell what they tell one by one.
func TestAtOnce(t *testing.T) {
	all, ins := memoryProgs(t), memoryInputs(t)
	if i := AtOnce(len(all), func(i int) string {
		text, fits := answers(all[i], ins)
		Fill(fits, -77)
		return text
	}); i >= 0 {
		t.Errorf("%s: told otherwise", shown(all[i]))
	}
}
