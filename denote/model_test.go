package denote_test

import (
	"iter"
	"slices"
	"testing"

	"martello/api"
	"martello/inputs"
	. "martello/samples"
	"martello/syntax"
	"martello/trees"
)

// The model of a tree's meaning are its ways as the chapter's words have them, one by one: each has with it all that it came to, and nothing of it is kept for another one. It is slow, and as plain as the words are.

// visit is what a way came to last, and what ahead of that.
type visit struct {
	piece, place int
	ahead        *visit
}

func (v *visit) been(piece, place int) bool {
	for ; v != nil; v = v.ahead {
		if v.piece == piece && v.place == place {
			return true
		}
	}
	return false
}

// way is where one is, with its fit and what it came to.
type way struct {
	place int
	fit   []int
	was   *visit
}

// keeping is the way with the first or the second place of a group, if that is one of those in its fit.
func (w way) keeping(group, which int) way {
	if group < len(w.fit)/2 {
		w.fit = slices.Clone(w.fit)
		w.fit[2*group+which] = w.place
	}
	return w
}

// piece is a part: of a way that comes to it how that goes on.
type piece func(way) iter.Seq[way]

// mostSteps is how often parts are come to in one question; what takes more is not asked.
const mostSteps = 1 << 10

// model is what ways are asked of.
type model struct {
	in            *inputs.Input
	pieces, steps int
}

// part numbers a piece, and lets no way come to it twice at one place.
func (m *model) part(on piece) piece {
	m.pieces++
	number := m.pieces
	return func(w way) iter.Seq[way] {
		m.steps++
		if m.steps > mostSteps || w.was.been(number, w.place) {
			return none
		}
		w.was = &visit{number, w.place, w.was}
		return on(w)
	}
}

func none(func(way) bool)      {}
func stay(w way) iter.Seq[way] { return func(yield func(way) bool) { yield(w) } }
func refuse(way) iter.Seq[way] { return none }
func when(so bool, p piece) piece { // p, if it is so
	if so {
		return p
	}
	return refuse
}

// then is one piece, and on with another one from each of its ends.
func then(one, other piece) piece {
	return func(w way) iter.Seq[way] {
		return func(yield func(way) bool) {
			for x := range one(w) {
				for y := range other(x) {
					if !yield(y) {
						return
					}
				}
			}
		}
	}
}

// either are the ends of pieces, of one behind those of the other.
func either(all ...piece) piece {
	return func(w way) iter.Seq[way] {
		return func(yield func(way) bool) {
			for _, p := range all {
				for x := range p(w) {
					if !yield(x) {
						return
					}
				}
			}
		}
	}
}

// asked is more, and behind it an end; lazy, the other way round.
func asked(lazy bool, more piece) piece {
	if lazy {
		return either(stay, more)
	}
	return either(more, stay)
}

// apart is a tree without counted repeats, each copy of a Kid standing where it is a part of its own.
func apart(t api.Tree) api.Tree {
	if t.Op != api.OpRepeat {
		t.Kids = slices.Clone(t.Kids)
		for i, kid := range t.Kids {
			t.Kids[i] = apart(kid)
		}
		return t
	}
	kid := apart(t.Kids[0])
	as := func(o api.Op, kid api.Tree) api.Tree { return api.Tree{Op: o, Kids: []api.Tree{kid}, Lazy: t.Lazy} }
	switch {
	case t.Max < 0 && t.Min == 0:
		return as(api.OpStar, kid)
	case t.Max < 0:
		return Cat(append(slices.Repeat([]api.Tree{kid}, t.Min-1), as(api.OpPlus, kid))...)
	}
	rest := Empty()
	for range t.Max - t.Min {
		rest = as(api.OpQuest, Cat(kid, rest))
	}
	return Cat(append(slices.Repeat([]api.Tree{kid}, t.Min), rest)...)
}

// of is a tree that was taken apart as a piece.
func (m *model) of(t api.Tree) piece {
	var kids []piece
	for _, kid := range t.Kids {
		kids = append(kids, m.of(kid))
	}
	switch t.Op {
	case api.OpEmpty:
		return m.part(stay)
	case api.OpRune:
		return m.part(m.reads([]api.Range{{Lo: t.Rune, Hi: t.Rune}}))
	case api.OpSet:
		return m.part(m.reads(t.Set))
	case api.OpAt:
		return m.part(func(w way) iter.Seq[way] { return when(m.in.At(w.place)&t.At != 0, stay)(w) })
	case api.OpCap:
		return m.part(func(w way) iter.Seq[way] {
			return then(kids[0], func(w way) iter.Seq[way] { return stay(w.keeping(t.Cap, 1)) })(w.keeping(t.Cap, 0))
		})
	case api.OpCat:
		row := piece(stay)
		for _, kid := range kids {
			row = then(row, kid)
		}
		return m.part(row)
	case api.OpAlt:
		return m.part(either(kids...))
	case api.OpQuest:
		return m.part(asked(t.Lazy, kids[0]))
	case api.OpStar:
		var again piece
		again = m.part(func(w way) iter.Seq[way] { return asked(t.Lazy, then(kids[0], again))(w) })
		return again
	case api.OpPlus:
		var asks piece
		asks = m.part(func(w way) iter.Seq[way] { return asked(t.Lazy, then(kids[0], asks))(w) })
		return m.part(then(kids[0], func(w way) iter.Seq[way] { return asks(w) }))
	}
	return refuse
}

func (m *model) reads(set []api.Range) piece {
	return func(w way) iter.Seq[way] {
		c := m.in.Rune(w.place)
		fits := c >= 0 && slices.ContainsFunc(set, func(r api.Range) bool { return r.Lo <= c && c <= r.Hi })
		w.place++
		return when(fits, stay)(w)
	}
}

// modelList is THE LIST of a tree from a place; false, if there are too many ways for that.
func modelList(t api.Tree, groups int, in *inputs.Input, at int) (fits [][]int, all bool) {
	m := &model{in: in}
	start := slices.Repeat([]int{-1}, 2*groups+2)
	start[0] = at
	for w := range m.of(apart(t))(way{place: at, fit: start}) {
		if !slices.ContainsFunc(fits, func(fit []int) bool { return fit[1] == w.place }) {
			fit := slices.Clone(w.fit)
			fit[1] = w.place
			fits = append(fits, fit)
		}
	}
	return fits, m.steps <= mostSteps
}

// holds holds List of a tree from each place of texts against the model; and D2 in the last one. It tells how often that was not too much to ask.
func holds(t *testing.T, tree api.Tree, groups int, texts ...string) (held int) {
	t.Helper()
	for i, text := range texts {
		in := Made(t, text)
		for at := range in.Len() + 1 {
			want, all := modelList(tree, groups, in, at)
			if !all {
				continue
			}
			held++
			if have := listed(t, tree, groups, in, at); shown(have) != shown(want) {
				t.Errorf("%s in %q from %d: %q, not %q", Shown(tree), text, at, shown(have), shown(want))
			}
		}
		if i == len(texts)-1 {
			finds(t, tree, groups, in)
		}
	}
	return held
}

// TestModel: P11.1, P11.2: all trees of up to two parts around a leaf, each Op in each other one, and some of three and four, against the model.
func TestModel(t *testing.T) {
	held := 0
	for _, tree := range slices.Concat(Around(0, 1), Around(1, 1)) {
		held += holds(t, tree, 1, Texts(3, "a", "b", "x", "\n")...)
	}
	for n, each := range []int{1, 1, 7, 311, 9001} {
		for _, tree := range Around(n, each) {
			held += holds(t, tree, n, "", "a", "xa", "aax", "axab")
		}
	}
	if held < 100000 {
		t.Errorf("%d lists were held against the model's", held)
	}
}

// TestModelOfPatterns: P11.1, P11.2: all short patterns of a few pieces, against the model.
func TestModelOfPatterns(t *testing.T) {
	held := 0
	for _, pieces := range [][]string{
		{"a", "|", "(", ")", "*", "+"}, {"a", "(", ")", "|", "*?", "+"}, {"a", "b", "|", "(", ")", "?"}, {"a", "(|", ")", "{2}", "{0,2}?", "+?"}, {"(a", "(|", "b)", ")", "*", "{2,}"}, {"a", `\b`, "(?:", ")", "??", "{1,2}"},
	} {
		for _, pattern := range Texts(6, pieces...) {
			tree, wrong := syntax.Parse(pattern, api.FlagPerl)
			if wrong.E == api.OK {
				held += holds(t, tree, 2, "ab", "aa")
			}
		}
	}
	for _, pattern := range Patterns() {
		tree, wrong := syntax.Parse(pattern, api.FlagPerl)
		if wrong.E == api.OK && trees.Weight(tree) < 100 {
			held += holds(t, tree, 3, "", "a", "kab\nK", "a.b\xff", "abcdab", "\n{2}é世")
		}
	}
	if held < 50000 {
		t.Errorf("%d lists were held against the model's", held)
	}
}
