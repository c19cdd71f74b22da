package onepass

import (
	"martello/api"
	"martello/inputs"
	"martello/lookup"
)

// run is a program's walk from a text's beginning: at each place it comes to one instruction alone, from which it goes on.
type run struct {
	ways
	in      *inputs.Input
	longest bool
	fit     []int // that of the walk, as it was ahead of the place
	match   []int // nil, as long as there is none
	steps   int
}

// goFrom walks from an instruction, place by place, as far as runes lead on.
func (r *run) goFrom(pc int) {
	r.fit[0] = 0
	for at := 0; pc >= 0; at++ {
		pc = r.pass(pc, at)
	}
}

// pass goes all ways at a place. It tells to which instruction the rune there leads; -1, if to none. A match that lies farther on is ahead of one here, if the set comes ahead of it; if behind it, only longest.
func (r *run) pass(from, at int) int {
	c, is := r.in.Rune(at), r.in.At(at)
	read, over := -1, false
	r.each(from, func(pc int) bool {
		r.steps++
		switch inst := &r.insts[pc]; inst.Op {
		case api.InstMatch:
			r.end(pc, at)
			over = !r.longest
		case api.InstSet:
			if !over && lookup.Has(inst.Set, c) {
				read = pc
			}
		case api.InstAt:
			return inst.At&is != 0
		}
		return true
	})
	if read < 0 {
		return -1
	}
	r.keep(r.fit, read, at)
	return r.insts[read].Out
}

// end keeps a match, which takes the place of one that ended ahead.
func (r *run) end(pc, at int) {
	r.steps += len(r.fit)
	r.match = append(r.match[:0], r.fit...)
	r.match[1] = at
	r.keep(r.match, pc, at)
}

// keep puts into a fit where groups begin and end on the way to an instruction, by the instructions on it from behind.
func (r *run) keep(fit []int, pc, at int) {
	for pc >= 0 {
		r.steps++
		inst := &r.insts[pc]
		if inst.Op == api.InstCap {
			fit[inst.Arg] = at
		}
		pc = r.by[pc]
	}
}
