package compile_test

import (
	"fmt"
	"slices"
	"strings"
	"testing"

	"martello/api"
	. "martello/samples"
	"martello/simplify"
	"martello/trees"
)

// coded is a tree's code by the chapter's words, as its instructions are shown without their places, and its entry. The first one stands at the place n, and it leads to k. Nothing is patched: what a Kid's code needs to know is known ahead of it.
type coded struct {
	insts []string
	entry int
}

func modelCode(t api.Tree, groups, n, k int) coded {
	one := func(inst string) coded { return coded{[]string{inst}, n} }
	switch t.Op {
	case api.OpNone:
		return one("fail")
	case api.OpRune:
		return one(fmt.Sprintf("set %s %d", shownRune(t.Rune), k))
	case api.OpSet:
		return one(fmt.Sprintf("set %s %d", shownSet(t.Set), k))
	case api.OpAt:
		return one(fmt.Sprintf("at %d %d", t.At, k))
	case api.OpCap:
		return modelGroup(t, groups, n, k)
	case api.OpCat:
		return modelRow(t.Kids, groups, n, k)
	case api.OpAlt:
		return modelChoice(t.Kids, groups, n, k)
	case api.OpQuest:
		kid := modelCode(t.Kids[0], groups, n, k)
		return coded{append(kid.insts, modelFork(kid.entry, k, t.Lazy)), n + len(kid.insts)}
	case api.OpStar:
		kid := modelCode(t.Kids[0], groups, n+1, n)
		return coded{append([]string{modelFork(kid.entry, k, t.Lazy)}, kid.insts...), n}
	case api.OpPlus:
		kid := modelCode(t.Kids[0], groups, n+1, n)
		return coded{append([]string{modelFork(kid.entry, k, t.Lazy)}, kid.insts...), kid.entry}
	}
	return coded{nil, k}
}

func modelFork(more, stop int, lazy bool) string {
	if lazy {
		return fmt.Sprintf("alt %d %d", stop, more)
	}
	return fmt.Sprintf("alt %d %d", more, stop)
}

func modelGroup(t api.Tree, groups, n, k int) coded {
	if t.Cap > groups {
		return modelCode(t.Kids[0], groups, n, k)
	}
	kid := modelCode(t.Kids[0], groups, n+1, n)
	insts := slices.Concat([]string{fmt.Sprintf("cap %d to %d", 2*t.Cap+1, k)}, kid.insts, []string{fmt.Sprintf("cap %d to %d", 2*t.Cap, kid.entry)})
	return coded{insts, n + len(insts) - 1}
}

// modelRow is what the last Kid is, and behind it what those ahead of it are that lead to it.
func modelRow(kids []api.Tree, groups, n, k int) coded {
	if len(kids) == 0 {
		return coded{nil, k}
	}
	last := modelCode(kids[len(kids)-1], groups, n, k)
	ahead := modelRow(kids[:len(kids)-1], groups, n+len(last.insts), last.entry)
	return coded{slices.Concat(last.insts, ahead.insts), ahead.entry}
}

func modelChoice(kids []api.Tree, groups, n, k int) coded {
	var all coded
	var entries []int
	for _, tree := range kids {
		kid := modelCode(tree, groups, n+len(all.insts), k)
		all.insts = append(all.insts, kid.insts...)
		entries = append(entries, kid.entry)
	}
	all.entry = entries[len(entries)-1]
	for i := len(entries) - 2; i >= 0; i-- {
		all.insts = append(all.insts, modelFork(entries[i], all.entry, false))
		all.entry = n + len(all.insts) - 1
	}
	return all
}

// modelled is the whole program, as it is shown.
func modelled(t api.Tree, groups int) string {
	code := modelCode(t, groups, 1, 0)
	all := []string{"0 match"}
	for i, inst := range code.insts {
		all = append(all, fmt.Sprint(i+1, " ", inst))
	}
	return strings.Join(all, ", ") + "; " + fmt.Sprint(code.entry)
}

// asModelled holds Compile of a tree without counted repeats against the model.
func asModelled(t *testing.T, tree api.Tree, groups int) {
	t.Helper()
	if have, want := shown(told(t, tree, groups)), modelled(tree, groups); have != want {
		t.Errorf("Compile of %s, %d groups: %.400s; not %.400s", brief(tree), groups, have, want)
	}
}

// TestModel: P13.1, P13.2: all trees of up to two parts around a leaf, each Op in each other one, and some of three and four, with as many groups as they have, with fewer and more: each as it is, if it has no counted repeat, and made plain.
func TestModel(t *testing.T) {
	repeats, others := 0, 0
	for n, each := range []int{1, 1, 1, 31, 3001} {
		for _, tree := range Around(n, each) {
			plain := simplify.Simple(tree)
			for _, groups := range []int{0, 1, 2, 3, 2000} {
				asModelled(t, plain, groups)
				if counted(tree) {
					refuses(t, tree, groups, api.ErrTreeForm)
					repeats++
				} else {
					asModelled(t, tree, groups)
					others++
				}
			}
		}
	}
	if repeats < 10000 || others < 10000 {
		t.Error(repeats, others)
	}
}

// TestModelAts: P13.1: each At in each Op, alone and beside others.
func TestModelAts(t *testing.T) {
	for _, at := range SixAts() {
		for _, in := range Outers() {
			for _, tree := range []api.Tree{in(At(at)), in(Cat(Letter('a'), At(at))), Alt(in(At(at)), At(api.AtEnd)), in(Star(At(at)))} {
				tree = Numbered(tree)
				asModelled(t, simplify.Simple(tree), 1)
				if !counted(tree) {
					asModelled(t, tree, 1)
				}
			}
		}
	}
}

// TestModelGroups: P13.1: groups of any numbers, names twice, as shaped trees may have them.
func TestModelGroups(t *testing.T) {
	for _, tree := range Misnumbered() {
		for _, groups := range []int{0, 1, 2, 3, 4, 1999, 2000} {
			if trees.Right(tree) || !trees.Shaped(tree) {
				t.Error(brief(tree))
			}
			asModelled(t, tree, groups)
		}
	}
	leaf := Cat(Letter('a'), Group(3, "", Set('b', 'c')))
	for _, first := range []int{1, 2, 3, 5, 1999, 2000, 2001} {
		for _, second := range []int{1, 2, 4, 2000, 2001} {
			inner := Group(second, "x", leaf)
			for _, tree := range []api.Tree{Group(first, "x", inner), Star(Cat(Group(first, "", leaf), inner)), Alt(inner, Group(first, "", Empty()), leaf), Group(first, "", Lazy(Plus(inner)))} {
				for _, groups := range []int{0, 1, 2, 3, 4, 5, 1998, 1999, 2000} {
					asModelled(t, tree, groups)
				}
			}
		}
	}
}

// TestModelPatterns: P13.1, P13.2: patterns of each kind of part, under several flags, made plain.
func TestModelPatterns(t *testing.T) {
	count := 0
	for _, tree := range PatternTrees() {
		for _, groups := range []int{0, 1, groupsOf(tree), 2000} {
			asModelled(t, simplify.Simple(tree), groups)
			if !counted(tree) {
				asModelled(t, tree, groups)
				count++
			}
		}
	}
	if count < 1000 {
		t.Error(count)
	}
}
