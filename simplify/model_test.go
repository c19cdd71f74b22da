package simplify_test

import (
	"slices"
	"strings"
	"testing"

	"martello/api"
	. "martello/samples"
	"martello/simplify"
	"martello/trees"
)

// row is what is simple, as the texts of what stands one behind the other in it: of none of them it is Empty. It is told without a tree of it being made.
type row struct {
	none, moves bool
	items       []string
}

// text is what shown tells of the tree.
func (r row) text() string {
	switch {
	case r.none:
		return "none"
	case len(r.items) == 0:
		return "empty"
	case len(r.items) == 1:
		return r.items[0]
	}
	return "(cat " + strings.Join(r.items, " ") + ")"
}

// in is a row of one item, the row in something.
func (r row) in(head string) row {
	return row{moves: r.moves, items: []string{"(" + head + " " + r.text() + ")"}}
}

// behind is one row behind the other.
func (r row) behind(s row) row {
	if r.none || s.none {
		return row{none: true}
	}
	return row{moves: r.moves || s.moves, items: slices.Concat(r.items, s.items)}
}

func (r row) star(mark string) row {
	if !r.moves {
		return row{}
	}
	return r.in("*" + mark)
}

func (r row) plus(mark string) row {
	if !r.moves {
		return r
	}
	return r.in("+" + mark)
}

func (r row) quest(mark string) row {
	if r.none || len(r.items) == 0 {
		return row{}
	}
	return r.in("?" + mark)
}

// modelRow is what SIMPLE tells of a tree, by the chapter's words.
func modelRow(t api.Tree) row {
	var kids []row
	for _, kid := range t.Kids {
		kids = append(kids, modelRow(kid))
	}
	mark := ""
	if t.Lazy {
		mark = "?"
	}
	switch t.Op {
	case api.OpNone:
		return row{none: true}
	case api.OpEmpty:
		return row{}
	case api.OpCap:
		if kids[0].none {
			return row{none: true}
		}
		head, _, _ := strings.Cut(Shown(Group(t.Cap, t.Name, None()))[1:], " ")
		return kids[0].in(head)
	case api.OpStar:
		return kids[0].star(mark)
	case api.OpPlus:
		return kids[0].plus(mark)
	case api.OpQuest:
		return kids[0].quest(mark)
	case api.OpRepeat:
		return modelTimes(kids[0], t.Min, t.Max, mark)
	case api.OpCat:
		all := row{}
		for _, kid := range kids {
			all = all.behind(kid)
		}
		return all
	case api.OpAlt:
		return modelAlt(kids)
	}
	return row{moves: t.Op != api.OpAt, items: []string{Shown(t)}}
}

func modelAlt(kids []row) row {
	kids = slices.DeleteFunc(kids, func(r row) bool { return r.none })
	if len(kids) == 0 {
		return row{none: true}
	}
	if len(kids) == 1 {
		return kids[0]
	}
	one := row{}
	head := "alt"
	for _, kid := range kids {
		one.moves = one.moves || kid.moves
		head += " " + kid.text()
	}
	one.items = []string{"(" + head + ")"}
	return one
}

// modelTimes: what must be, one after the other, and behind it what may be, from the last one inwards.
func modelTimes(x row, least, most int, mark string) row {
	switch {
	case most == 0:
		return row{}
	case most < 0 && least == 0:
		return x.star(mark)
	case most < 0:
		all := x.plus(mark)
		for range least - 1 {
			all = x.behind(all)
		}
		return all
	}
	all := row{}
	for i := range most {
		all = x.behind(all)
		if i < most-least {
			all = all.quest(mark)
		}
	}
	return all
}

// TestModel: P10.1, P10.2: all trees of up to two parts around a leaf, each Op in each other one, and some of three and four: what is told is what the model tells, is shaped, and has no counted repeat.
func TestModel(t *testing.T) {
	for n, each := range []int{1, 1, 1, 31, 3001} {
		for _, tree := range Around(n, each) {
			if !trees.Right(tree) {
				t.Fatal("not right:", Shown(tree))
			}
			told := simplify.Simple(tree)
			if want := modelRow(tree).text(); Shown(told) != want {
				t.Errorf("Simple of %s: %s, not %s", Shown(tree), Shown(told), want)
			}
			plain(t, tree, told)
			if trees.Right(told) && trees.Empty(told) != trees.Empty(tree) {
				t.Errorf("Simple of %s: %s, which may fit nothing: %t", Shown(tree), Shown(told), trees.Empty(told))
			}
		}
	}
}
