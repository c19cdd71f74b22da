package printer_test

import (
	"slices"
	"testing"

	"martello/api"
	"martello/printer"
)

// roomy is a copy of a tree whose lists have spare room, with something in it.
func roomy(t api.Tree) api.Tree {
	t.Set = append(slices.Clone(t.Set), ranges(7, 7, 9, 9)...)[:len(t.Set)]
	kids := append(slices.Clone(t.Kids), letter('!'), star(letter('?')))
	for i, kid := range t.Kids {
		kids[i] = roomy(kid)
	}
	t.Kids = kids[:len(t.Kids)]
	return t
}

// whole is a copy of a tree with what its lists' spare room has as well.
func whole(t api.Tree) api.Tree {
	t.Set = slices.Clone(t.Set[:cap(t.Set)])
	kids := slices.Clone(t.Kids[:cap(t.Kids)])
	for i, kid := range kids {
		kids[i] = whole(kid)
	}
	t.Kids = kids
	return t
}

// memoryTrees are right trees with each kind of part, and some that are not right.
func memoryTrees() []api.Tree {
	all := []api.Tree{{}, set(5, 4), cat(set('a', 'b'), letter(-1)), of(13, letter('a')), grp(2, "x", set('a', 'b')), nested(50, set('a', 'b'), star)}
	for _, w := range wTrees(1, wLeaves()...) {
		all = append(all, numbered(w.tree))
	}
	all = append(all, cat(set('a', 'b', 'd', 'd'), grp(1, "x", cat(set(0, 9), letter('a'), at(1))), lazy(repeat(1, 2, alt(set(0, 9), cat(letter('b'), grp(2, "y", none()))))), empty(), cat(), alt(cat(alt(letter('a'), letter('b')))))) // each Op
	return all
}

// TestUnchanged: rule P3: what is handed in, and its spare room, stays as it was, right or not.
func TestUnchanged(t *testing.T) {
	for _, tree := range memoryTrees() {
		tree = roomy(tree)
		before := whole(tree)
		text, e := printer.Print(tree)
		if !same(whole(tree), before) {
			t.Errorf("%v: was %v", whole(tree), before)
		}
		if more, f := printer.Print(tree); more != text || f != e {
			t.Errorf("Print of %v: %q, %d; and %q, %d", tree, text, e, more, f)
		}
	}
}

// TestToldAgain: rule P3: what is told hangs on the tree alone, whatever was asked ahead, an error too, and what was told stays.
func TestToldAgain(t *testing.T) {
	all := memoryTrees()
	var texts []string
	var errors []api.Errno
	for _, tree := range all {
		text, e := printer.Print(tree)
		texts, errors = append(texts, text), append(errors, e)
	}
	for i := len(all) - 1; i >= 0; i-- {
		if text, e := printer.Print(all[i]); text != texts[i] || e != errors[i] {
			t.Errorf("Print of %v: %q, %d; was %q, %d", all[i], text, e, texts[i], errors[i])
		}
	}
}

// TestAtOnce: rule P3: calls at the same time tell what they tell one by one, of trees that share parts, too.
func TestAtOnce(t *testing.T) {
	all := memoryTrees()
	var want []string
	for _, tree := range all {
		text, _ := printer.Print(tree)
		want = append(want, text)
	}
	wrong := make(chan int)
	for range 8 {
		go func() {
			bad := -1
			for i, tree := range all {
				if text, _ := printer.Print(tree); text != want[i] {
					bad = i
				}
			}
			wrong <- bad
		}()
	}
	for range 8 {
		if i := <-wrong; i >= 0 {
			t.Errorf("Print of %v: told otherwise", all[i])
		}
	}
}

// TestShared: a tree in which parts share their lists prints as one in which they do not.
func TestShared(t *testing.T) {
	kid := cat(set('a', 'b'), letter('c'))
	prints(t, cat(kid, star(kid), kid, alt(kid, kid)), `[\x{61}-\x{62}]c(?:[\x{61}-\x{62}]c)*[\x{61}-\x{62}]c(?:[\x{61}-\x{62}]c|[\x{61}-\x{62}]c)`)
}
