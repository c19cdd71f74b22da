package compile_test

import (
	"fmt"
	"testing"

	"martello/api"
	"martello/compile"
	. "martello/samples"
	"martello/simplify"
)

// memoryTrees are trees with each kind of part, some of which have no program, and some that share lists.
func memoryTrees() []api.Tree {
	set := Set('a', 'c', 'x', 'z')
	all := []api.Tree{{}, Set(5, 4), Cat(set, Letter(-1)), Repeat(1, 2, set), Group(9, "x", set), Nested(49, set, Star), Cat(many(api.MaxInsts, set)...)}
	all = append(all, Around(1, 1)...)
	for _, tree := range Around(2, 29) {
		all = append(all, simplify.Simple(tree))
	}
	kids := []api.Tree{set, Alt(set, set), Group(2, "", set)}
	return append(all, Cat(set, set, set), Alt(set, Cat(set, Star(set))), Cat(Of(api.OpCat, kids...), Of(api.OpAlt, kids...), Plus(Of(api.OpCat, kids[1:]...))), Cat(Set('a', 'b', 'd', 'd'), Group(1, "x", Cat(Set(0, 9), Letter('a'), At(1))), Lazy(Quest(Alt(Set(0, 9), Group(2, "y", Set(1, 2)))))))
}

// wholly is all that a tree has, the spare room of its lists, too.
func wholly(tree api.Tree) string { return fmt.Sprint(Whole(tree)) }

// text is all that a program is, and the error.
func text(p api.Prog, e api.Errno) string { return fmt.Sprint(p, e) }

// spoil writes over all lists of a program, and their spare room.
func spoil(p api.Prog) {
	insts := p.Insts[:cap(p.Insts)]
	for pc := range insts {
		set := insts[pc].Set
		for i := range set[:cap(set)] {
			set[:cap(set)][i] = api.Range{Lo: -7, Hi: -9}
		}
		insts[pc] = api.Inst{Op: 77, Out: -7}
	}
}

// TestUnchanged: rule P3: the tree that is handed in, and its spare room, stays as it was, while it is asked, and when the program is written over.
func TestUnchanged(t *testing.T) {
	for _, tree := range memoryTrees() {
		tree = Roomy(tree)
		before := wholly(tree)
		for _, groups := range []int{0, 1, 2, -1} {
			p, _ := compile.Compile(tree, groups)
			if wholly(tree) != before {
				t.Errorf("%.400s, %d groups: %.400s", before, groups, wholly(tree))
			}
			spoil(p)
			if wholly(tree) != before {
				t.Errorf("%.400s, %d groups, the program written over: %.400s", before, groups, wholly(tree))
			}
		}
	}
}

// TestNotKept: rule P3: the program stays as it was when the tree is written over.
func TestNotKept(t *testing.T) {
	for _, tree := range memoryTrees() {
		tree = Roomy(tree)
		p, e := compile.Compile(tree, 1)
		before := text(p, e)
		Spoil(tree)
		if now := text(p, e); now != before {
			t.Errorf("%.400s; was %.400s", now, before)
		}
	}
}

// TestOwnLists: rule P3: no two lists of a program share any memory, be it spare room, though parts of the tree share theirs.
func TestOwnLists(t *testing.T) {
	for _, tree := range memoryTrees() {
		p, _ := compile.Compile(tree, 1)
		again, _ := compile.Compile(tree, 1)
		met := map[*api.Range]bool{}
		for _, one := range []api.Prog{p, again} {
			for _, i := range one.Insts {
				whole := i.Set[:cap(i.Set)]
				for r := range whole {
					if met[&whole[r]] {
						t.Fatalf("%s: lists are shared", brief(tree))
					}
					met[&whole[r]] = true
				}
			}
		}
		if len(p.Insts) > 0 && &p.Insts[0] == &again.Insts[0] {
			t.Errorf("%s: both programs are one", brief(tree))
		}
	}
}

// TestToldAgain: rule P3: what is told hangs on the arguments alone, whatever was asked ahead, and though what was told is written over.
func TestToldAgain(t *testing.T) {
	all := memoryTrees()
	var first []string
	for _, tree := range all {
		for _, groups := range []int{0, 1, 2} {
			p, e := compile.Compile(tree, groups)
			first = append(first, text(p, e))
			spoil(p)
		}
	}
	for i := len(first) - 1; i >= 0; i-- {
		p, e := compile.Compile(all[i/3], i%3)
		if again := text(p, e); again != first[i] {
			t.Errorf("Compile of %s, %d groups: %.400s; was %.400s", brief(all[i/3]), i%3, again, first[i])
		}
		spoil(p)
	}
	for i, tree := range all {
		if p, e := compile.Compile(Roomy(tree), 1); text(p, e) != first[3*i+1] {
			t.Errorf("Compile of %s, with spare room: %.400s; was %.400s", brief(tree), text(p, e), first[3*i+1])
		}
	}
}

// TestAtOnce: rule P3: calls at the same time tell what they tell one by one, of the same trees.
func TestAtOnce(t *testing.T) {
	all := memoryTrees()
	if i := AtOnce(len(all), func(i int) string {
		p, e := compile.Compile(all[i], 1)
		told := text(p, e)
		spoil(p)
		return told
	}); i >= 0 {
		t.Errorf("Compile of %s: told otherwise", brief(all[i]))
	}
}
