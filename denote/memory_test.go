package denote_test

import (
	"fmt"
	"testing"

	"martello/api"
	"martello/denote"
	"martello/inputs"
	. "martello/samples"
)

// memoryTrees are shaped trees with each kind of part, and some that are not shaped.
func memoryTrees() []api.Tree {
	all := []api.Tree{{}, Set(5, 4), Cat(Set('a', 'b'), Letter(-1)), Nested(49, Set('a', 'b'), Star), Group(9, "x", Set('a', 'b'))}
	all = append(all, Around(1, 1)...)
	for _, c := range Counts() {
		all = append(all, Cat(Repeat(c[0], c[1], Cat(Set('a', 'b'), Alt(Letter('c'), Set('a', 'b')))), Star(Group(1, "x", Set('a', 'f')))))
	}
	return append(all, Cat(Set('a', 'b', 'd', 'd'), Group(1, "x", Cat(Set(0, 9), Letter('a'), At(1)))), Lazy(Repeat(1, 2, Alt(Set('a', 'a'), Group(2, "y", Set('b', 'c'))))), Plus(Alt(Group(1, "", Empty()), Group(2, "", Set('a', 'x')))))
}

// answers are all that is told of a tree in an input, as a text; and all lists of it.
func answers(tree api.Tree, in *inputs.Input) (text string, all [][]int) {
	for at := -1; at <= in.Len()+1; at++ {
		fits := denote.List(tree, 2, in, at)
		text += fmt.Sprint(fits)
		all = append(all, fits...)
		for _, longest := range []bool{false, true} {
			match, ok := denote.Match(tree, 2, in, at, longest)
			found, so := denote.Find(tree, 2, in, at, longest)
			text += fmt.Sprint(match, ok, found, so)
			all = append(all, match, found)
		}
	}
	return text, all
}

// TestUnchanged: rule P3: the tree that is handed in, its spare room, and the input stay as they were, while they are asked, and when what was told is written over.
func TestUnchanged(t *testing.T) {
	in := Made(t, "abac\xffab")
	was := fmt.Sprint(*in)
	for _, tree := range memoryTrees() {
		tree = Roomy(tree)
		before := Whole(tree)
		_, told := answers(tree, in)
		for range 2 {
			if !Same(Whole(tree), before) {
				t.Errorf("%v: was %v", Whole(tree), before)
			}
			if fmt.Sprint(*in) != was {
				t.Fatalf("%s: the input is %v; was %s", Shown(before), *in, was)
			}
			Fill(told, -77)
		}
	}
}

// TestOwnLists: rule P3: no two lists of one answer share any memory, be it spare room, nor do those of several answers.
func TestOwnLists(t *testing.T) {
	in := Made(t, "abac\xffab")
	for _, tree := range memoryTrees() {
		if _, all := answers(tree, in); !Apart(all) {
			t.Fatalf("%s: lists are shared", Shown(tree))
		}
	}
	fits := denote.List(Star(Set('a', 'c')), 1, in, 0)
	rows := fits[:cap(fits)]
	want := fmt.Sprint(denote.List(Star(Set('a', 'c')), 1, in, 0))
	for i := range rows {
		rows[i] = []int{7}
	}
	if again := fmt.Sprint(denote.List(Star(Set('a', 'c')), 1, in, 0)); again != want {
		t.Errorf("%s; was %s", again, want)
	}
}

// TestToldAgain: rule P3: what is told hangs on the arguments alone, whatever was asked ahead, and though what was told is written over; and on no kind of the input.
func TestToldAgain(t *testing.T) {
	all := memoryTrees()
	var first []string
	for _, tree := range all {
		text, told := answers(tree, Made(t, "abac\xffab"))
		first = append(first, text)
		Fill(told, -77)
	}
	for _, k := range Kinds() {
		in, e := inputs.New(k, []byte("abac\xffab"))
		if e != api.OK {
			t.Fatal(e)
		}
		for i := len(all) - 1; i >= 0; i-- {
			if again, _ := answers(all[i], in); again != first[i] {
				t.Errorf("%s, kind %d: %s; was %s", Shown(all[i]), k, again, first[i])
			}
		}
	}
}

// TestAtOnce: rule P3: calls at the same time, of the same trees and the same input, tell what they tell one by one.
func TestAtOnce(t *testing.T) {
	all, in := memoryTrees(), Made(t, "abac\xffab")
	if i := AtOnce(len(all), func(i int) string {
		text, told := answers(all[i], in)
		Fill(told, -77)
		return text
	}); i >= 0 {
		t.Errorf("%s: told otherwise", Shown(all[i]))
	}
}

// TestTextKept: rule P3: an input's text may be written over behind it.
func TestTextKept(t *testing.T) {
	text := []byte("aab")
	in, e := inputs.New(api.KindBytes, text)
	if e != api.OK {
		t.Fatal(e)
	}
	copy(text, "xyz")
	if fits := shown(denote.List(Parsed(t, "a*"), 0, in, 0)); fits != "2, 1, 0" {
		t.Error(fits)
	}
}

// TestShared: a tree in which parts share their lists is what one is in which they do not: each is a part of its own.
func TestShared(t *testing.T) {
	kid := Alt(Empty(), Letter('a'))
	kids := []api.Tree{kid, kid}
	lists(t, Cat(kids...), 0, "aa", 0, "0, 1, 2")
	lists(t, Cat(Of(api.OpCat, kids...), Of(api.OpCat, kids...)), 0, "aaa", 0, "0, 1, 2, 3")
	loop := Star(Letter('a'))
	lists(t, Cat(loop, loop, Star(loop)), 0, "aa", 0, "2, 1, 0")
}
