package denote

import (
	"slices"

	"martello/api"
	"martello/lookup"
)

// lay makes a part of a tree, from which ways lead on to then.
func (w *ways) lay(t *api.Tree, then part) part {
	switch t.Op {
	case api.OpNone:
		return func(int) {}
	case api.OpEmpty:
		return w.pass(then)
	case api.OpRune:
		return w.read(func(c rune) bool { return c == t.Rune }, then)
	case api.OpSet:
		return w.read(func(c rune) bool { return lookup.Has(t.Set, c) }, then)
	case api.OpAt:
		return w.stand(t.At, then)
	case api.OpCap:
		return w.group(t, then)
	case api.OpStar:
		return w.star(t, then)
	case api.OpPlus:
		return w.plus(t, then)
	case api.OpQuest:
		return w.quest(t.Lazy, w.lay(&t.Kids[0], then), then)
	case api.OpRepeat:
		return w.repeat(t, t.Min, t.Max, then)
	case api.OpCat:
		return w.row(t.Kids, then)
	}
	return w.choice(t.Kids, then)
}

// pass leads on from where it is come to.
func (w *ways) pass(then part) part { return func(at int) { w.on(then, at) } }

// read leads on behind a rune that fits; behind the last one there is -1, which never does.
func (w *ways) read(fits func(rune) bool, then part) part {
	return func(at int) {
		if fits(w.in.Rune(at)) {
			w.on(then, at+1)
		}
	}
}

// stand leads on where the place is as it must be.
func (w *ways) stand(a api.At, then part) part {
	return func(at int) {
		if w.in.At(at)&a != 0 {
			w.on(then, at)
		}
	}
}

// group keeps the places of a group; what they were is put back when all that the group leads to is done with. One that is not asked for is its Kid.
func (w *ways) group(t *api.Tree, then part) part {
	if t.Cap >= len(w.fit)/2 {
		return w.lay(&t.Kids[0], then)
	}
	begin, end := 2*t.Cap, 2*t.Cap+1
	putBegin, putEnd := w.put(begin), w.put(end)
	kid := w.lay(&t.Kids[0], func(at int) {
		w.on(putEnd, w.fit[end])
		w.fit[end] = at
		w.on(then, at)
	})
	return func(at int) {
		w.on(putBegin, w.fit[begin])
		w.fit[begin] = at
		w.on(kid, at)
	}
}

// star is come to again where its Kid ended.
func (w *ways) star(t *api.Tree, then part) part {
	var kid part
	again := w.once(func(at int) { w.either(t.Lazy, kid, then, at) })
	kid = w.lay(&t.Kids[0], again)
	return again
}

// plus is not come to again: it asks where its Kid ended, and the Kid is come to from both.
func (w *ways) plus(t *api.Tree, then part) part {
	var kid part
	asks := w.once(func(at int) { w.either(t.Lazy, kid, then, at) })
	kid = w.once(w.lay(&t.Kids[0], asks))
	return kid
}

func (w *ways) quest(lazy bool, kid, then part) part {
	return func(at int) { w.either(lazy, kid, then, at) }
}

// repeat is what is left of a counted repeat: one copy of its Kid, and what is left then. A most below 0 stays below it: there is none.
func (w *ways) repeat(t *api.Tree, least, most int, then part) part {
	kid := &t.Kids[0]
	switch {
	case most == 0:
		return w.pass(then)
	case most < 0 && least == 0:
		return w.star(t, then)
	case most < 0 && least == 1:
		return w.plus(t, then)
	}
	more := w.behind(kid, func() part { return w.repeat(t, max(least-1, 0), most-1, then) })
	if least == 0 {
		return w.quest(t.Lazy, w.lay(kid, more), then)
	}
	return w.lay(kid, more)
}

// row is one tree behind the other.
func (w *ways) row(kids []api.Tree, then part) part {
	if len(kids) == 0 {
		return w.pass(then)
	}
	return w.lay(&kids[0], w.behind(&kids[0], func() part { return w.row(kids[1:], then) }))
}

// behind is what is laid behind a tree, when it is come to first: a repeat that is taken apart may have far more parts than any way comes to. A tree without Kids leads on from each place once at most, if it is come to there once; of any other several ways may end at one place.
func (w *ways) behind(t *api.Tree, lay func() part) part {
	if len(t.Kids) == 0 {
		return later(lay)
	}
	return w.once(later(lay))
}

// later is a part that is laid when it is come to.
func later(lay func() part) part {
	var laid part
	return func(at int) {
		if laid == nil {
			laid = lay()
		}
		laid(at)
	}
}

// choice is each Kid's ways, one Kid's behind the other's.
func (w *ways) choice(kids []api.Tree, then part) part {
	var all []part
	for i := range kids {
		all = append(all, w.lay(&kids[i], then))
	}
	return func(at int) {
		for _, kid := range slices.Backward(all) {
			w.on(kid, at)
		}
	}
}
