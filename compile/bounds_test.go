package compile_test

import (
	"slices"
	"testing"

	"martello/api"
	. "martello/samples"
	"martello/simplify"
	"martello/trees"
)

// many is a list of so many of the same tree.
func many(n int, tree api.Tree) []api.Tree { return slices.Repeat([]api.Tree{tree}, n) }

// has holds Compile of a tree whose program would have so many instructions.
func has(t *testing.T, tree api.Tree, groups, n int) {
	t.Helper()
	if n > api.MaxInsts {
		refuses(t, tree, groups, api.ErrTooMany)
		return
	}
	if p := told(t, tree, groups); len(p.Insts) != n {
		t.Errorf("Compile of %s, %d groups: %d instructions, not %d", brief(tree), groups, len(p.Insts), n)
	}
}

// TestMostOfEach: O1: of each Op just as many as make MaxInsts instructions, or one fewer, and one more.
func TestMostOfEach(t *testing.T) {
	a := Letter('a')
	group := func(n int) func(api.Tree) api.Tree {
		return func(kid api.Tree) api.Tree { return Group(n, "", kid) }
	}
	for _, tree := range []api.Tree{None(), a, Set('a', 'c'), At(api.AtEnd)} {
		for n, insts := range map[int]int{9998: 9999, 9999: 10000, 10000: 10001, 10001: 10002} {
			has(t, Cat(many(n, tree)...), 0, insts)
			has(t, Cat(Cat(many(n, Cat(tree))...), Empty()), 2000, insts)
		}
		for n, insts := range map[int]int{4999: 9998, 5000: 10000, 5001: 10002} {
			has(t, Alt(many(n, tree)...), 0, insts)
			has(t, Cat(Alt(many(n, tree)...), At(1)), 0, insts+1)
			has(t, Alt(append(many(n, tree), Empty())...), 0, insts+1)
		}
		for _, in := range []func(api.Tree) api.Tree{Star, Plus, Quest} {
			for n, insts := range map[int]int{9997: 9999, 9998: 10000, 9999: 10001} {
				has(t, Nested(n, tree, in), 0, insts)
				has(t, Nested(n, tree, func(kid api.Tree) api.Tree { return Lazy(in(kid)) }), 0, insts)
				has(t, Nested(n, Cat(tree, Empty()), func(kid api.Tree) api.Tree { return Cat(Alt(in(kid))) }), 1, insts)
			}
			for n, insts := range map[int]int{4999: 9999, 5000: 10001} {
				has(t, Cat(many(n, in(tree))...), 0, insts)
				has(t, Cat(append(many(n, Lazy(in(tree))), tree)...), 0, insts+1)
			}
		}
		for n, insts := range map[int]int{4998: 9998, 4999: 10000, 5000: 10002} {
			has(t, Nested(n, tree, group(1)), 1, insts)
			has(t, Nested(n, tree, group(2000)), 2000, insts)
			has(t, Cat(Nested(n, Empty(), group(1)), tree), 1, insts)
			has(t, Cat(append(many(n, group(7)(Empty())), tree)...), 7, insts)
			has(t, Nested(n, tree, group(2)), 1, 2) // not asked for
			has(t, Nested(n, tree, group(2001)), 2000, 2)
			has(t, Cat(append(many(n, group(8)(Empty())), tree)...), 7, 2)
		}
	}
	for n, insts := range map[int]int{9999: 9999, 10000: 10000, 10001: 10001} {
		has(t, Alt(many(n, Empty())...), 0, insts)
		has(t, Alt(many(n, Cat())...), 0, insts)
		has(t, Cat(many(n-1, Lazy(Star(Empty())))...), 0, insts)
	}
}

// TestJustMost: O1: of programs with MaxInsts instructions each one as it must be.
func TestJustMost(t *testing.T) {
	a := Letter('a')
	p := told(t, Cat(many(9999, a)...), 0)
	for pc, i := range p.Insts[1:] {
		if i.Op != api.InstSet || i.Out != pc {
			t.Fatal(pc+1, i)
		}
	}
	p = told(t, Nested(9998, a, Star), 0)
	for pc, i := range p.Insts[1:9999] {
		if i.Op != api.InstAlt || i.Out != pc+2 || i.Arg != pc {
			t.Fatal(pc+1, i)
		}
	}
	p = told(t, Alt(many(5000, a)...), 0)
	for pc, i := range p.Insts[5001:] {
		if i.Op != api.InstAlt || i.Out != 4999-pc || i.Arg != 5000+pc {
			t.Fatal(pc+5001, i)
		}
	}
	p = told(t, Nested(4999, a, func(kid api.Tree) api.Tree { return Group(2000, "", kid) }), 2000)
	for pc := range 4999 {
		end, begin := p.Insts[pc+1], p.Insts[9999-pc]
		if end.Op != api.InstCap || end.Arg != 4001 || end.Out != pc || begin.Op != api.InstCap || begin.Arg != 4000 || begin.Out != 9998-pc {
			t.Fatal(pc, end, begin)
		}
	}
}

// TestFarMore: O1: trees whose programs would be far greater, by their Kids, their depth, or both, and soon told to be.
func TestFarMore(t *testing.T) {
	a := Letter('a')
	group := func(kid api.Tree) api.Tree { return Group(1, "", kid) }
	for _, tree := range []api.Tree{
		Cat(many(1<<20, a)...), Alt(many(1<<20, a)...), Alt(many(1<<20, Empty())...), Alt(many(1<<20, None())...), Cat(many(1<<20, Star(Empty()))...), Cat(a, Alt(a, Cat(many(1<<19, Quest(a))...))), Cat(many(1000, Cat(many(1000, a)...))...), Alt(many(1000, Alt(many(1000, a)...))...),
		Nested(17, a, func(kid api.Tree) api.Tree { return Cat(kid, kid) }), Nested(17, a, func(kid api.Tree) api.Tree { return Alt(kid, kid) }), Nested(16, Empty(), func(kid api.Tree) api.Tree { return Star(Alt(kid, kid)) }),
		Nested(1<<16-1, a, Star), Nested(1<<16-1, a, Plus), Nested(1<<16-1, a, Quest), Nested(1<<16-1, Empty(), group), Nested(1<<15-1, a, func(kid api.Tree) api.Tree { return Cat(a, Quest(kid)) }), Nested(1<<15-1, a, func(kid api.Tree) api.Tree { return Alt(kid, Star(a)) }),
	} {
		for _, groups := range []int{1, 2000} {
			refuses(t, tree, groups, api.ErrTooMany)
		}
		for _, groups := range []int{-1, 2001} {
			refuses(t, tree, groups, api.ErrTreeForm)
		}
	}
	set := Set('a', 'a')
	for c := rune(0x100); len(set.Set) < 5000; c += 2 {
		set.Set = append(set.Set, Ranges(c, c)...)
	}
	refuses(t, Cat(many(10000, set)...), 0, api.ErrTooMany)
}

// TestManyOfNothing: very many Kids, and great depth, of which no code is made.
func TestManyOfNothing(t *testing.T) {
	a := Letter('a')
	compiles(t, Cat(many(1<<20, Empty())...), 0, "; 0")
	compiles(t, Cat(many(1<<20, Cat())...), 0, "; 0")
	compiles(t, Cat(append(many(1<<20, Empty()), a)...), 0, "1 set a 0; 1")
	compiles(t, Cat(append([]api.Tree{a}, many(1<<20, Group(9, "", Empty()))...)...), 8, "1 set a 0; 1")
	compiles(t, Nested(18, Empty(), func(kid api.Tree) api.Tree { return Cat(kid, kid) }), 0, "; 0")
	for _, in := range []func(api.Tree) api.Tree{
		func(kid api.Tree) api.Tree { return Cat(kid) }, func(kid api.Tree) api.Tree { return Cat(Empty(), kid, Cat()) }, func(kid api.Tree) api.Tree { return Alt(kid) }, func(kid api.Tree) api.Tree { return Group(2001, "", kid) },
	} {
		for _, depth := range []int{49, 50, 51, 1000, 1<<16 - 1} {
			compiles(t, Nested(depth, a, in), 2000, "1 set a 0; 1")
			compiles(t, Star(Nested(depth-1, Empty(), in)), 2000, "1 alt 1 0; 1")
		}
	}
}

// TestDeep: trees far deeper than MaxDepth, heavier than MaxWeight: they need only be shaped.
func TestDeep(t *testing.T) {
	a, b := Letter('a'), Letter('b')
	for _, in := range []func(api.Tree) api.Tree{
		Star, Plus, Quest, func(kid api.Tree) api.Tree { return Lazy(Star(kid)) }, func(kid api.Tree) api.Tree { return Lazy(Plus(kid)) }, func(kid api.Tree) api.Tree { return Lazy(Quest(kid)) },
		func(kid api.Tree) api.Tree { return Cat(b, kid) }, func(kid api.Tree) api.Tree { return Cat(kid, b) }, func(kid api.Tree) api.Tree { return Alt(kid, b) }, func(kid api.Tree) api.Tree { return Alt(b, kid) }, func(kid api.Tree) api.Tree { return Group(1, "", kid) }, func(kid api.Tree) api.Tree { return Quest(Cat(b, kid)) }, func(kid api.Tree) api.Tree { return Plus(Alt(kid, Empty())) },
	} {
		for _, depth := range []int{49, 50, 51, 1500} {
			asModelled(t, Nested(depth, a, in), 1)
		}
	}
	for _, tree := range TooGreat() {
		switch {
		case counted(tree):
			refuses(t, tree, 1, api.ErrTreeForm)
		case trees.Depth(tree) > api.MaxInsts || len(tree.Kids) > api.MaxInsts:
			refuses(t, tree, 1, api.ErrTooMany)
		default:
			asModelled(t, tree, 1)
		}
	}
}

// TestHeaviest: P13.2: of the greatest trees that are right, made plain, there are programs.
func TestHeaviest(t *testing.T) {
	a := Letter('a')
	all := Cat()
	for i := range 1333 {
		all.Kids = append(all.Kids, Group(i+1, Name(i+1), a))
	}
	for _, x := range []struct {
		tree          api.Tree
		groups, insts int
	}{
		{Cat(many(3999, a)...), 0, 4000}, {Alt(many(2000, a)...), 0, 4000}, {all, 1333, 4000}, {all, 2000, 4000}, {all, 1332, 3998}, {all, 0, 1334}, {Repeat(0, 1000, a), 0, 2001}, {Lazy(Repeat(0, 799, Alt(a, Empty()))), 0, 2398}, {Repeat(1000, 1000, Quest(a)), 0, 2001}, {Repeat(500, 1000, Quest(a)), 0, 2501}, {Repeat(1000, -1, a), 0, 1002}, {Repeat(100, 100, Cat(all.Kids[:10]...)), 10, 3001}, {Repeat(99, 100, Cat(all.Kids[:10]...)), 5, 2002},
	} {
		if !trees.Right(x.tree) {
			t.Errorf("%s: not right", brief(x.tree))
		}
		plain := simplify.Simple(x.tree)
		has(t, plain, x.groups, x.insts)
		asModelled(t, plain, x.groups)
	}
}
