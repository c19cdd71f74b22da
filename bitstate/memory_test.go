package bitstate_test

import (
	"fmt"
	"slices"
	"strings"
	"testing"

	"martello/api"
	"martello/bitstate"
	"martello/inputs"
	. "martello/samples"
)

// memoryProgs are programs that are admitted, and such that are not.
func memoryProgs(t *testing.T) []api.Prog {
	all := []api.Prog{{}, EachOp(), Program(Read(9, 'a', 'a')), {Insts: []api.Inst{Fork(0, 0)}, Caps: 3}, plain(api.MaxInsts)}
	for _, pattern := range []string{"a(b*)c", "(a)*?", "(?:(a)|(b)|[c-x])*", "^$", "a*a", "(a|ab)(c|bcd)?", "(a*)*b", `[^\x{0}-\x{10ffff}]`, "[^b]*(b)"} {
		all = append(all, ProgOf(t, pattern))
	}
	return all
}

// memoryInputs are inputs of all kinds, and none.
func memoryInputs(t *testing.T) []*inputs.Input {
	return []*inputs.Input{nil, Made(t, ""), Made(t, "abbc"), Made(t, "aab"), Made(t, "\xffab"), Made(t, "xabcdabcd"), Made(t, strings.Repeat("ab", 3000))}
}

// answers are all that a machine tells of a program, as a text, and its fits.
func answers(m *bitstate.Machine, p api.Prog, ins []*inputs.Input) (text string, fits [][]int) {
	for _, in := range ins {
		text += fmt.Sprint(bitstate.Admits(p, in))
		for _, q := range append(questions(0), question{from: 2}, question{1, true, true}) {
			fit, is, steps := m.Find(p, in, q.from, q.anchored, q.longest)
			text += fmt.Sprint(" ", fit, is, steps)
			fits = append(fits, fit)
		}
	}
	return text, fits
}

// shownInputs are inputs as a text, with all that they have.
func shownInputs(ins []*inputs.Input) string {
	text := ""
	for _, in := range ins {
		if in != nil {
			text += fmt.Sprint(*in)
		}
	}
	return text
}

// TestUnchanged: rule P3: programs, and their spare room, and inputs stay as they were, while they are asked, and when what was told is written over.
func TestUnchanged(t *testing.T) {
	ins := memoryInputs(t)
	was := shownInputs(ins)
	for _, p := range memoryProgs(t) {
		p = RoomyProg(p)
		before := fmt.Sprint(WholeProg(p))
		_, fits := answers(used, p, ins)
		for range 2 {
			if now := fmt.Sprint(WholeProg(p)); now != before {
				t.Errorf("%s; was %s", shown(now), shown(before))
			}
			if now := shownInputs(ins); now != was {
				t.Errorf("%s; was %s", shown(now), shown(was))
			}
			Fill(fits, -77)
		}
	}
}

// TestNotKept: rule P3: what was told stays as it was when the program is written over, and when the machine is asked anew; the program may be another one then.
func TestNotKept(t *testing.T) {
	ins, m := memoryInputs(t), bitstate.New()
	var all [][]int
	var was []string
	for _, p := range memoryProgs(t) {
		p = RoomyProg(p)
		_, fits := answers(m, p, ins)
		all = append(all, fits...)
		for _, fit := range fits {
			was = append(was, fmt.Sprint(fit))
		}
		SpoilProg(p)
	}
	for i, fit := range all {
		if now := fmt.Sprint(fit); now != was[i] {
			t.Errorf("%s; was %s", now, was[i])
		}
	}
	p, in := Program(Read(1, 'a', 'a'), Match()), Made(t, "ab")
	bothFind(t, p, in, 0, []int{0, 1, -1, -1})
	p.Insts[0].Set[0] = api.Range{Lo: 'b', Hi: 'b'}
	bothFind(t, p, in, 0, []int{1, 2, -1, -1})
	p.Insts[0] = Fail()
	bothFind(t, p, in, 0, nil)
	p.Insts[0] = Fork(7, 7)
	admits(t, p, in, false)
}

// TestOwnLists: rule P3: no two fits that are told, by one machine or by two, share memory, be it spare room.
func TestOwnLists(t *testing.T) {
	ins, m := memoryInputs(t), bitstate.New()
	var all [][]int
	for _, p := range memoryProgs(t) {
		for _, one := range []*bitstate.Machine{m, m, bitstate.New()} {
			_, fits := answers(one, p, ins)
			all = append(all, fits...)
		}
	}
	if !Apart(all) {
		t.Error("fits are shared")
	}
}

// TestToldAgain: rule P3: what is told, the steps too, hangs on the arguments alone, whatever the machine was asked ahead, and though what was told is written over.
func TestToldAgain(t *testing.T) {
	all, ins, m := memoryProgs(t), memoryInputs(t), bitstate.New()
	var first []string
	for _, p := range all {
		text, fits := answers(bitstate.New(), p, ins)
		first = append(first, text)
		Fill(fits, -77)
	}
	for i, p := range slices.Concat(all, all) {
		for _, p := range []api.Prog{p, RoomyProg(p)} {
			if again, _ := answers(m, p, memoryInputs(t)); again != first[i%len(all)] {
				t.Errorf("%s: %s; was %s", shown(p), shown(again), shown(first[i%len(all)]))
			}
		}
	}
	for i, p := range slices.Backward(all) {
		if again, _ := answers(m, p, ins); again != first[i] {
			t.Errorf("%s: %s; was %s", shown(p), shown(again), shown(first[i]))
		}
	}
}

// TestAsked: I2: whatever a machine was asked ahead, of each two questions the second one is answered as by a new one: what was marked, what was left to try, and what was kept are gone.
func TestAsked(t *testing.T) {
	type asked struct {
		p  api.Prog
		in *inputs.Input
		q  question
	}
	var all []asked
	for _, pattern := range []string{"(a)|b|(c)", "(a|(b))*?c", "(?:(a)|a(b))*", "x", "(a*)(b*)", ""} {
		for _, text := range []string{"", "abcabc", "cab", strings.Repeat("ab", 200) + "c"} {
			for _, q := range []question{{}, {longest: true}, {from: 2}, {1, true, false}} {
				all = append(all, asked{ProgOf(t, pattern), Made(t, text), q})
			}
		}
	}
	find := func(m *bitstate.Machine, a asked) string {
		return fmt.Sprint(m.Find(a.p, a.in, a.q.from, a.q.anchored, a.q.longest))
	}
	for _, second := range all {
		want := find(bitstate.New(), second)
		for _, first := range all {
			m := bitstate.New()
			find(m, first)
			if have := find(m, second); have != want {
				t.Fatalf("%+v of %s in %s, behind %+v of %s in %s: %s, not %s", second.q, shown(second.p), shownText(second.in), first.q, shown(first.p), shownText(first.in), have, want)
			}
		}
	}
}

// TestOwnMachines: rule P3: New tells another machine each time.
func TestOwnMachines(t *testing.T) {
	if m := bitstate.New(); m == nil || m == bitstate.New() {
		t.Error("one machine, or none")
	}
}

// TestAtOnce: rule P3: machines that are asked at the same time, of the same programs and inputs, tell what they tell one by one.
func TestAtOnce(t *testing.T) {
	all, ins := memoryProgs(t), memoryInputs(t)
	if i := AtOnce(len(all), func(i int) string {
		text, fits := answers(bitstate.New(), all[i], ins)
		Fill(fits, -77)
		return text
	}); i >= 0 {
		t.Errorf("%s: told otherwise", shown(all[i]))
	}
}
