// Package samples has trees, patterns and texts for the tests of the layers: short names by which trees are made, right ones and wrong ones, and what is asked of them. The program itself does not need it.
package samples

import (
	"strconv"

	"martello/api"
)

// The trees of each Op.

func None() api.Tree                      { return api.Tree{Op: api.OpNone} }
func Empty() api.Tree                     { return api.Tree{Op: api.OpEmpty} }
func Letter(c rune) api.Tree              { return api.Tree{Op: api.OpRune, Rune: c} }
func Set(ends ...rune) api.Tree           { return api.Tree{Op: api.OpSet, Set: Ranges(ends...)} }
func At(a api.At) api.Tree                { return api.Tree{Op: api.OpAt, At: a} }
func Star(kid api.Tree) api.Tree          { return Of(api.OpStar, kid) }
func Plus(kid api.Tree) api.Tree          { return Of(api.OpPlus, kid) }
func Quest(kid api.Tree) api.Tree         { return Of(api.OpQuest, kid) }
func Cat(kids ...api.Tree) api.Tree       { return Of(api.OpCat, kids...) }
func Alt(kids ...api.Tree) api.Tree       { return Of(api.OpAlt, kids...) }
func Of(o api.Op, k ...api.Tree) api.Tree { return api.Tree{Op: o, Kids: k} }

func Group(n int, name string, kid api.Tree) api.Tree {
	return api.Tree{Op: api.OpCap, Cap: n, Name: name, Kids: []api.Tree{kid}}
}

func Repeat(least, most int, kid api.Tree) api.Tree {
	return api.Tree{Op: api.OpRepeat, Min: least, Max: most, Kids: []api.Tree{kid}}
}

// Lazy is a repeat that is lazy.
func Lazy(t api.Tree) api.Tree {
	t.Lazy = true
	return t
}

// Ranges are a list of them, by both ends each.
func Ranges(ends ...rune) []api.Range {
	var l []api.Range
	for i := 0; i+1 < len(ends); i += 2 {
		l = append(l, api.Range{Lo: ends[i], Hi: ends[i+1]})
	}
	return l
}

// Nested is a tree, so often put in another one.
func Nested(n int, t api.Tree, in func(api.Tree) api.Tree) api.Tree {
	for range n {
		t = in(t)
	}
	return t
}

// Name is a group's name, one for each number.
func Name(n int) string { return "n" + strconv.Itoa(n) }

// Numbered is a copy of a tree, right if its groups are numbered and named as they begin: those that have a name by how many have one.
func Numbered(t api.Tree) api.Tree {
	groups, names := 0, 0
	var copied func(api.Tree) api.Tree
	copied = func(t api.Tree) api.Tree {
		if t.Op == api.OpCap {
			groups++
			t.Cap = groups
			if t.Name != "" {
				names++
				t.Name = Name(names)
			}
		}
		kids := []api.Tree{}
		for _, kid := range t.Kids {
			kids = append(kids, copied(kid))
		}
		t.Kids = kids
		return t
	}
	return copied(t)
}
