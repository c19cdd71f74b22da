package progs_test

import (
	"fmt"
	"slices"
	"testing"

	"martello/api"
	"martello/progs"
	. "martello/samples"
)

// roomy is a copy of a list with spare room, in which something stands.
func roomy[Item any](list []Item, spare ...Item) []Item {
	return append(slices.Clone(list), spare...)[:len(list)]
}

// memoryProgs are programs of each kind, right ones and wrong ones, whose lists have spare room.
func memoryProgs() []api.Prog {
	list := []api.Prog{EachOp(), {Insts: []api.Inst{Fork(1, 2), Read(0, 'a', 'b'), Read(1, 'a', 'a', 'c', 'c'), Match()}, Caps: 2}, of(Ranges('b', 'd'), Ranges('a', 'z'), Ranges(0, 0x10ffff)), {}, Program(Read(0, 5, 4)), Program(Read(0, 'a', 'b'), Read(7, 'a', 'b')), {Insts: []api.Inst{Read(0, 'a', 'b')}, Caps: 3}}
	for i, p := range list {
		list[i] = RoomyProg(p)
	}
	return list
}

// memoryPcs are lists with spare room of places, some of which are none.
func memoryPcs() [][]int {
	var lists [][]int
	for _, pcs := range [][]int{nil, {0}, {1}, {0, 1}, {2, 1, 0, 1}, {1, 2}, {0, -1}, {99}} {
		lists = append(lists, roomy(pcs, 1, 0, -7))
	}
	return lists
}

// room is all that a list has, its spare room, too.
func room[Item any](list []Item) string { return fmt.Sprint(list, list[:cap(list)]) }

// answers are all that is told of a program, as a text; and all lists of it.
func answers(p api.Prog, lists [][]int) (text string, outs [][]int, runes [][]rune) {
	l := progs.Classes(p)
	text = fmt.Sprint(progs.Check(p), l, progs.Class(l, 'b'))
	runes = append(runes, l)
	for _, pcs := range lists {
		for _, longest := range []bool{false, true} {
			reads, is := progs.Closure(p, pcs, 63, longest)
			text += fmt.Sprint(reads, is)
			outs = append(outs, reads)
		}
		for _, c := range []rune{'a', 'c', -1} {
			next := progs.Next(p, pcs, c)
			text += fmt.Sprint(next)
			outs = append(outs, next)
		}
	}
	return text, outs, runes
}

// TestUnchanged: rule P3: what is handed in, and its spare room, stays as it was, while it is asked, and when what was told is written over.
func TestUnchanged(t *testing.T) {
	for _, p := range memoryProgs() {
		lists := memoryPcs()
		before, pcs := fmt.Sprint(WholeProg(p)), fmt.Sprint(lists)
		_, outs, runes := answers(p, lists)
		for range 2 {
			if now := fmt.Sprint(WholeProg(p)); now != before {
				t.Errorf("%s; was %s", now, before)
			}
			if now := fmt.Sprint(lists); now != pcs {
				t.Errorf("%s; was %s", now, pcs)
			}
			for i, list := range memoryPcs() {
				if now := room(lists[i]); now != room(list) {
					t.Errorf("%s; was %s", now, room(list))
				}
			}
			Fill(outs, -77)
			Fill(runes, -77)
		}
	}
	l := roomy([]rune{5, 1, 3}, 0, 9)
	before := room(l)
	if n := progs.Class(l, 3); n != 1 || room(l) != before {
		t.Error(n, room(l))
	}
}

// TestNotKept: rule P3: when what was handed in is written over, what was told stays as it was.
func TestNotKept(t *testing.T) {
	for _, p := range memoryProgs() {
		lists := memoryPcs()
		_, outs, runes := answers(p, lists)
		before := fmt.Sprint(outs, runes)
		Fill(lists, 3)
		SpoilProg(p)
		if now := fmt.Sprint(outs, runes); now != before {
			t.Errorf("%s; was %s", now, before)
		}
	}
}

// TestOwnLists: rule P3: no two lists that are told share any, be it spare room, nor does one with what was handed in.
func TestOwnLists(t *testing.T) {
	for _, p := range memoryProgs() {
		lists := memoryPcs()
		_, outs, _ := answers(p, lists)
		_, more, _ := answers(p, lists)
		if !Apart(slices.Concat(lists, outs, more)) {
			t.Fatalf("%s: lists are shared", shown(p))
		}
	}
}

// TestToldAgain: rule P3: what is told hangs on the arguments alone, whatever was asked ahead, and though what was told is written over.
func TestToldAgain(t *testing.T) {
	list := memoryProgs()
	var first []string
	for _, p := range list {
		text, outs, runes := answers(p, memoryPcs())
		first = append(first, text)
		Fill(outs, 1)
		Fill(runes, 'b')
	}
	for i, p := range slices.Backward(list) {
		if again, _, _ := answers(p, memoryPcs()); again != first[i] {
			t.Errorf("%s: %s; was %s", shown(p), again, first[i])
		}
	}
}

// TestAtOnce: rule P3: calls at the same time, of the same programs, tell what they tell one by one.
func TestAtOnce(t *testing.T) {
	list, pcs := memoryProgs(), memoryPcs()
	if i := AtOnce(len(list), func(i int) string {
		text, outs, runes := answers(list[i], pcs)
		Fill(outs, 5)
		Fill(runes, 5)
		return text
	}); i >= 0 {
		t.Errorf("%s: told otherwise", shown(list[i]))
	}
}
