package printer_test

import (
	"testing"

	"martello/api"
	"martello/printer"
	. "martello/samples"
)

// memoryTrees are right trees with each kind of part, and some that are not right.
func memoryTrees() []api.Tree {
	all := []api.Tree{{}, Set(5, 4), Cat(Set('a', 'b'), Letter(-1)), Of(13, Letter('a')), Group(2, "x", Set('a', 'b')), Nested(50, Set('a', 'b'), Star)}
	for _, w := range wTrees(1, wLeaves()...) {
		all = append(all, Numbered(w.tree))
	}
	all = append(all, Cat(Set('a', 'b', 'd', 'd'), Group(1, "x", Cat(Set(0, 9), Letter('a'), At(1))), Lazy(Repeat(1, 2, Alt(Set(0, 9), Cat(Letter('b'), Group(2, "y", None()))))), Empty(), Cat(), Alt(Cat(Alt(Letter('a'), Letter('b')))))) // each Op
	return all
}

// TestUnchanged: rule P3: what is handed in, and its spare room, stays as it was, right or not.
func TestUnchanged(t *testing.T) {
	for _, tree := range memoryTrees() {
		tree = Roomy(tree)
		before := Whole(tree)
		text, e := printer.Print(tree)
		if !Same(Whole(tree), before) {
			t.Errorf("%v: was %v", Whole(tree), before)
		}
		if more, f := printer.Print(tree); more != text || f != e {
			t.Errorf("Print of %v: %q, %d; and %q, %d", tree, text, e, more, f)
		}
	}
}

// TestToldAgain: rule P3: what is told hangs on the tree alone, whatever was asked ahead, an error too, and what was told stays.
func TestToldAgain(t *testing.T) {
	all := memoryTrees()
	var texts []string
	var errors []api.Errno
	for _, tree := range all {
		text, e := printer.Print(tree)
		texts, errors = append(texts, text), append(errors, e)
	}
	for i := len(all) - 1; i >= 0; i-- {
		if text, e := printer.Print(all[i]); text != texts[i] || e != errors[i] {
			t.Errorf("Print of %v: %q, %d; was %q, %d", all[i], text, e, texts[i], errors[i])
		}
	}
}

// TestAtOnce: rule P3: calls at the same time tell what they tell one by one, of trees that share parts, too.
func TestAtOnce(t *testing.T) {
	all := memoryTrees()
	if i := AtOnce(len(all), func(i int) string {
		text, _ := printer.Print(all[i])
		return text
	}); i >= 0 {
		t.Errorf("Print of %v: told otherwise", all[i])
	}
}

// TestShared: a tree in which parts share their lists prints as one in which they do not.
func TestShared(t *testing.T) {
	kid := Cat(Set('a', 'b'), Letter('c'))
	prints(t, Cat(kid, Star(kid), kid, Alt(kid, kid)), `[\x{61}-\x{62}]c(?:[\x{61}-\x{62}]c)*[\x{61}-\x{62}]c(?:[\x{61}-\x{62}]c|[\x{61}-\x{62}]c)`)
}
