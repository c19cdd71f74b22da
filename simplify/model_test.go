package simplify_test

import (
	"slices"
	"strings"
	"testing"

	"martello/api"
	. "martello/samples"
	"martello/simplify"
	"martello/trees"
)

// row is what is simple, as the texts of what stands one behind the other in it: of none of them it is Empty. It is told without a tree of it being made.
type row struct {
	none, moves bool
	items       []string
}

// text is what shown tells of the tree.
func (r row) text() string {
	switch {
	case r.none:
		return "none"
	case len(r.items) == 0:
		return "empty"
	case len(r.items) == 1:
		return r.items[0]
	}
	return "(cat " + strings.Join(r.items, " ") + ")"
}

// in is a row of one item, the row in something.
func (r row) in(head string) row {
	return row{moves: r.moves, items: []string{"(" + head + " " + r.text() + ")"}}
}

// behind is one row behind the other.
func (r row) behind(s row) row {
	if r.none || s.none {
		return row{none: true}
	}
	return row{moves: r.moves || s.moves, items: slices.Concat(r.items, s.items)}
}

func (r row) star(mark string) row {
	if !r.moves {
		return row{}
	}
	return r.in("*" + mark)
}

func (r row) plus(mark string) row {
	if !r.moves {
		return r
	}
	return r.in("+" + mark)
}

func (r row) quest(mark string) row {
	if r.none || len(r.items) == 0 {
		return row{}
	}
	return r.in("?" + mark)
}

// modelRow is what SIMPLE tells of a tree, by the chapter's words.
func modelRow(t api.Tree) row {
	var kids []row
	for _, kid := range t.Kids {
		kids = append(kids, modelRow(kid))
	}
	mark := ""
	if t.Lazy {
		mark = "?"
	}
	switch t.Op {
	case api.OpNone:
		return row{none: true}
	case api.OpEmpty:
		return row{}
	case api.OpCap:
		if kids[0].none {
			return row{none: true}
		}
		head, _, _ := strings.Cut(Shown(Group(t.Cap, t.Name, None()))[1:], " ")
		return kids[0].in(head)
	case api.OpStar:
		return kids[0].star(mark)
	case api.OpPlus:
		return kids[0].plus(mark)
	case api.OpQuest:
		return kids[0].quest(mark)
	case api.OpRepeat:
		return modelTimes(kids[0], t.Min, t.Max, mark)
	case api.OpCat:
		all := row{}
		for _, kid := range kids {
			all = all.behind(kid)
		}
		return all
	case api.OpAlt:
		return modelAlt(kids)
	}
	return row{moves: t.Op != api.OpAt, items: []string{Shown(t)}}
}

func modelAlt(kids []row) row {
	kids = slices.DeleteFunc(kids, func(r row) bool { return r.none })
	if len(kids) == 0 {
		return row{none: true}
	}
	if len(kids) == 1 {
		return kids[0]
	}
	one := row{}
	head := "alt"
	for _, kid := range kids {
		one.moves = one.moves || kid.moves
		head += " " + kid.text()
	}
	one.items = []string{"(" + head + ")"}
	return one
}

// modelTimes: what must be, one after the other, and behind it what may be, from the last one inwards.
func modelTimes(x row, least, most int, mark string) row {
	switch {
	case most == 0:
		return row{}
	case most < 0 && least == 0:
		return x.star(mark)
	case most < 0:
		all := x.plus(mark)
		for range least - 1 {
			all = x.behind(all)
		}
		return all
	}
	all := row{}
	for i := range most {
		all = x.behind(all)
		if i < most-least {
			all = all.quest(mark)
		}
	}
	return all
}

// leaves are trees of each Op without Kids.
func leaves() []api.Tree {
	return []api.Tree{None(), Empty(), Letter('a'), Set('a', 'b'), At(api.AtWord), Cat()}
}

// outers are all trees that stand around one other, alone or with others beside it.
func outers() []func(api.Tree) api.Tree {
	x := Letter('x')
	all := []func(api.Tree) api.Tree{
		func(kid api.Tree) api.Tree { return Group(0, "", kid) },
		func(kid api.Tree) api.Tree { return Group(0, "name", kid) },
		func(kid api.Tree) api.Tree { return Cat(kid) },
		func(kid api.Tree) api.Tree { return Cat(kid, x) },
		func(kid api.Tree) api.Tree { return Cat(x, kid, At(1)) },
		func(kid api.Tree) api.Tree { return Cat(Empty(), kid, kid) },
		func(kid api.Tree) api.Tree { return Cat(kid, None()) },
		func(kid api.Tree) api.Tree { return Alt(kid) },
		func(kid api.Tree) api.Tree { return Alt(kid, x) },
		func(kid api.Tree) api.Tree { return Alt(None(), Empty(), kid) },
		func(kid api.Tree) api.Tree { return Alt(None(), kid) },
		Star, Plus, Quest,
		func(kid api.Tree) api.Tree { return Lazy(Star(kid)) },
		func(kid api.Tree) api.Tree { return Lazy(Plus(kid)) },
		func(kid api.Tree) api.Tree { return Lazy(Quest(kid)) },
	}
	for _, c := range counts() {
		all = append(all, func(kid api.Tree) api.Tree { return Repeat(c[0], c[1], kid) })
		if c[0] != c[1] {
			all = append(all, func(kid api.Tree) api.Tree { return Lazy(Repeat(c[0], c[1], kid)) })
		}
	}
	return all
}

// around are trees with so many of the outers, one in the other, around a leaf, with their groups numbered: all of them, or each so manieth.
func around(n, each int) []api.Tree {
	var all []api.Tree
	count := 0
	var put func(int, api.Tree)
	put = func(n int, tree api.Tree) {
		if n > 0 {
			for _, in := range outers() {
				put(n-1, in(tree))
			}
			return
		}
		if count++; count%each == 0 {
			all = append(all, Numbered(tree))
		}
	}
	for _, leaf := range leaves() {
		put(n, leaf)
	}
	return all
}

// TestModel: P10.1, P10.2: all trees of up to two parts around a leaf, each Op in each other one, and some of three and four: what is told is what the model tells, is shaped, and has no counted repeat.
func TestModel(t *testing.T) {
	for n, each := range []int{1, 1, 1, 31, 3001} {
		for _, tree := range around(n, each) {
			if !trees.Right(tree) {
				t.Fatal("not right:", Shown(tree))
			}
			told := simplify.Simple(tree)
			if want := modelRow(tree).text(); Shown(told) != want {
				t.Errorf("Simple of %s: %s, not %s", Shown(tree), Shown(told), want)
			}
			plain(t, tree, told)
			if trees.Right(told) && trees.Empty(told) != trees.Empty(tree) {
				t.Errorf("Simple of %s: %s, which may fit nothing: %t", Shown(tree), Shown(told), trees.Empty(told))
			}
		}
	}
}
