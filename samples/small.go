package samples

import "martello/api"

// Leaves are trees of each Op without Kids.
func Leaves() []api.Tree {
	return []api.Tree{None(), Empty(), Letter('a'), Set('a', 'b'), At(api.AtWord), Cat()}
}

// Outers are all trees that stand around one other, alone or with others beside it.
func Outers() []func(api.Tree) api.Tree {
	x := Letter('x')
	all := []func(api.Tree) api.Tree{
		func(kid api.Tree) api.Tree { return Group(0, "", kid) },
		func(kid api.Tree) api.Tree { return Group(0, "name", kid) },
		func(kid api.Tree) api.Tree { return Cat(kid) },
		func(kid api.Tree) api.Tree { return Cat(kid, x) },
		func(kid api.Tree) api.Tree { return Cat(x, kid, At(1)) },
		func(kid api.Tree) api.Tree { return Cat(Empty(), kid, kid) },
		func(kid api.Tree) api.Tree { return Cat(kid, None()) },
		func(kid api.Tree) api.Tree { return Alt(kid) },
		func(kid api.Tree) api.Tree { return Alt(kid, x) },
		func(kid api.Tree) api.Tree { return Alt(None(), Empty(), kid) },
		func(kid api.Tree) api.Tree { return Alt(None(), kid) },
		Star, Plus, Quest,
		func(kid api.Tree) api.Tree { return Lazy(Star(kid)) },
		func(kid api.Tree) api.Tree { return Lazy(Plus(kid)) },
		func(kid api.Tree) api.Tree { return Lazy(Quest(kid)) },
	}
	for _, c := range Counts() {
		all = append(all, func(kid api.Tree) api.Tree { return Repeat(c[0], c[1], kid) })
		if c[0] != c[1] {
			all = append(all, func(kid api.Tree) api.Tree { return Lazy(Repeat(c[0], c[1], kid)) })
		}
	}
	return all
}

// Around are trees with so many of the Outers, one in the other, around a leaf, with their groups numbered: all of them, or one of each so many.
func Around(n, each int) []api.Tree {
	var all []api.Tree
	count := 0
	var put func(int, api.Tree)
	put = func(n int, tree api.Tree) {
		if n > 0 {
			for _, in := range Outers() {
				put(n-1, in(tree))
			}
			return
		}
		if count++; count%each == 0 {
			all = append(all, Numbered(tree))
		}
	}
	for _, leaf := range Leaves() {
		put(n, leaf)
	}
	return all
}

// Counts are a count of each kind.
func Counts() [][2]int {
	return [][2]int{{0, 0}, {1, 1}, {2, 2}, {3, 3}, {0, 1}, {0, 2}, {0, 3}, {1, 2}, {1, 3}, {2, 4}, {0, -1}, {1, -1}, {2, -1}, {3, -1}}
}
