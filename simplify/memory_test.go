package simplify_test

import (
	"testing"

	"martello/api"
	. "martello/samples"
	"martello/simplify"
)

// memoryTrees are right trees with each kind of part, and some that are not right.
func memoryTrees() []api.Tree {
	all := []api.Tree{{}, Set(5, 4), Cat(Set('a', 'b'), Letter(-1)), Of(13, Letter('a')), Group(2, "x", Set('a', 'b')), Nested(49, Set('a', 'b'), Star), Nested(50, Set('a', 'b'), Star)}
	all = append(all, Around(1, 1)...)
	for _, c := range Counts() {
		all = append(all, Repeat(c[0], c[1], Set('a', 'b')), Cat(Letter('x'), Repeat(c[0], c[1], Cat(Set('a', 'b'), Alt(Letter('c'), Set('d', 'd')))), Star(Set('e', 'f'))))
	}
	return append(all, Cat(Set('a', 'b', 'd', 'd'), Group(1, "x", Cat(Set(0, 9), Letter('a'), At(1))), Lazy(Repeat(1, 2, Alt(Set(0, 9), Cat(Letter('b'), Group(2, "y", Set(1, 2)))))), Empty(), Cat(), Alt(Cat(Alt(Letter('a'), Letter('b')))), Plus(Cat(At(1), At(2))), Alt(None(), Cat(Set('a', 'b'), Letter('c'))), Repeat(3, -1, Repeat(0, 2, Set(1, 2)))))
}

// TestUnchanged: rule P3: what is handed in, and its spare room, stays as it was, right or not, while it is asked, and when what was told is written over.
func TestUnchanged(t *testing.T) {
	for _, tree := range memoryTrees() {
		tree = Roomy(tree)
		before := Whole(tree)
		told := simplify.Simple(tree)
		if !Same(Whole(tree), before) {
			t.Errorf("%v: was %v", Whole(tree), before)
		}
		Spoil(told)
		if !Same(Whole(tree), before) {
			t.Errorf("%v: was %v, ahead of what was told being written over", Whole(tree), before)
		}
	}
}

// ownLists: do no two lists of a tree share any memory, be it spare room?
func ownLists(t api.Tree) bool {
	own := true
	ranges, kids := map[*api.Range]bool{}, map[*api.Tree]bool{}
	var meet func(api.Tree)
	meet = func(t api.Tree) {
		set, all := t.Set[:cap(t.Set)], t.Kids[:cap(t.Kids)]
		for i := range set {
			own = own && !ranges[&set[i]]
			ranges[&set[i]] = true
		}
		for i := range all {
			own = own && !kids[&all[i]]
			kids[&all[i]] = true
		}
		for _, kid := range t.Kids {
			meet(kid)
		}
	}
	meet(t)
	return own
}

// TestOwnLists: rule P3: no two lists of what is told share any memory, be it spare room: those of copies, too.
func TestOwnLists(t *testing.T) {
	for _, tree := range memoryTrees() {
		if told := simplify.Simple(tree); !ownLists(told) {
			t.Errorf("Simple of %s: %s, in which lists are shared", Shown(tree), Shown(told))
		}
	}
}

// TestToldAgain: rule P3: what is told hangs on the tree alone, whatever was asked ahead, and stays though what was told otherwise is written over.
func TestToldAgain(t *testing.T) {
	all := memoryTrees()
	var first []string
	var told []api.Tree
	for _, tree := range all {
		told = append(told, simplify.Simple(tree))
		first = append(first, Shown(told[len(told)-1]))
	}
	for i := len(all) - 1; i >= 0; i-- {
		again := simplify.Simple(all[i])
		if Shown(again) != first[i] {
			t.Errorf("Simple of %s: %s; was %s", Shown(all[i]), Shown(again), first[i])
		}
		Spoil(again)
	}
	for i, tree := range told {
		if Shown(tree) != first[i] {
			t.Errorf("Simple of %s: now %s; was %s", Shown(all[i]), Shown(tree), first[i])
		}
	}
}

// TestAtOnce: rule P3: calls at the same time tell what they tell one by one, of trees that share parts, too.
func TestAtOnce(t *testing.T) {
	all := memoryTrees()
	if i := AtOnce(len(all), func(i int) string {
		told := simplify.Simple(all[i])
		text := Shown(told)
		Spoil(told)
		return text
	}); i >= 0 {
		t.Errorf("Simple of %s: told otherwise", Shown(all[i]))
	}
}

// TestShared: a tree in which parts share their lists becomes what one does in which they do not.
func TestShared(t *testing.T) {
	kid := Cat(Set('a', 'b'), Letter('c'))
	simple(t, Cat(kid, Star(kid), kid, Alt(kid, kid)), Cat(Set('a', 'b'), Letter('c'), Star(kid), Set('a', 'b'), Letter('c'), Alt(kid, kid)))
}
