package denote

import (
	"slices"

	"martello/inputs"
)

// part is what is done where a way comes to a part of the tree.
type part func(at int)

// turn is a part that a way is to come to at a place; or a group's place that is to be put back.
type turn struct {
	to part
	at int
}

// spot is one of the parts that have a number, and a row of places as long as a word has bits.
type spot struct{ part, row int }

const rowLen = 64

// ways are those through a tree, gone one after the other in their order. What is left of them stands on a stack of its own, so that they may be as long as they like.
type ways struct {
	in    *inputs.Input
	fit   []int           // that of the way which is gone
	left  []turn          // the next one last
	met   map[spot]uint64 // where each part was come to: a bit for each place of a row
	parts int             // how many have a number
	ends  [][]int
	best  []int // nil, as long as there is none
}

// through are the ways through a tree that is to be laid.
func through(groups int, in *inputs.Input) *ways {
	return &ways{in: in, fit: slices.Repeat([]int{-1}, 2*(groups+1)), met: map[spot]uint64{}}
}

// goFrom goes all ways from a place, till nothing is left of them.
func (w *ways) goFrom(at int, whole part) {
	w.fit[0] = at
	w.on(whole, at)
	for len(w.left) > 0 {
		last := len(w.left) - 1
		next := w.left[last]
		w.left = w.left[:last]
		next.to(next.at)
	}
}

// on is where the way goes on, ahead of all that is left.
func (w *ways) on(to part, at int) { w.left = append(w.left, turn{to, at}) }

// either goes on with more, and behind that with stop; lazy, the other way round.
func (w *ways) either(lazy bool, more, stop part, at int) {
	if lazy {
		more, stop = stop, more
	}
	w.on(stop, at)
	w.on(more, at)
}

// once is a part that is gone on from once at each place. A way that comes to it again either came to it itself, and is none; or another one did ahead of it, and then all that it may come to was come to as well, and only the first way to each end counts.
func (w *ways) once(to part) part {
	w.parts++
	number := w.parts
	return func(at int) {
		if w.meet(number, at) {
			to(at)
		}
	}
}

// meet: is it the first time that the part is come to there?
func (w *ways) meet(number, at int) bool {
	s, bit := spot{number, at / rowLen}, uint64(1)<<(at%rowLen)
	places := w.met[s]
	if places&bit != 0 {
		return false
	}
	w.met[s] = places | bit
	return true
}

// ending is what keeps the end that is asked for.
func (w *ways) ending(longest bool) part {
	if longest {
		return w.farther
	}
	return w.first
}

// add keeps an end behind those that are kept.
func (w *ways) add(at int) {
	fit := slices.Clone(w.fit)
	fit[1] = at
	w.ends = append(w.ends, fit)
}

// first keeps an end, and leaves all other ways.
func (w *ways) first(at int) {
	w.keep(at)
	w.left = nil
}

// farther keeps an end, if it is farther than the one that is kept; so that of those at one place the first stays.
func (w *ways) farther(at int) {
	if w.best == nil || at > w.best[1] {
		w.keep(at)
	}
}

func (w *ways) keep(at int) {
	w.best = append(w.best[:0], w.fit...)
	w.best[1] = at
}

// put is what puts a group's place back where it was ahead of a way.
func (w *ways) put(i int) part { return func(place int) { w.fit[i] = place } }
