package simplify

import (
	"slices"

	"martello/api"
)

// repeated takes a counted repeat of a plain Kid apart. Of no times at most none are joined, and that is Empty.
func repeated(t api.Tree) api.Tree {
	x := t.Kids[0]
	as := func(op api.Op, kid api.Tree) api.Tree {
		return looped(api.Tree{Op: op, Kids: []api.Tree{kid}, Lazy: t.Lazy})
	}
	switch {
	case t.Max < 0 && t.Min == 0:
		return as(api.OpStar, x)
	case t.Max < 0:
		return joined(append(copies(t.Min-1, x), as(api.OpPlus, x))...)
	case t.Max == t.Min:
		return joined(copies(t.Min, x)...)
	}
	return joined(append(copies(t.Min, x), rest(t.Max-t.Min, x, as))...)
}

// rest is what may follow, n times at most: each time only if the one ahead of it did.
func rest(n int, x api.Tree, as func(api.Op, api.Tree) api.Tree) api.Tree {
	last := as(api.OpQuest, copied(x))
	for range n - 1 {
		last = as(api.OpQuest, joined(copied(x), last))
	}
	return last
}

// copies are n times the same tree, none of which shares a list with another one.
func copies(n int, x api.Tree) []api.Tree {
	return each(slices.Repeat([]api.Tree{x}, n), copied)
}

func copied(t api.Tree) api.Tree { return anew(t, copied) }
