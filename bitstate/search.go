package bitstate

import (
	"martello/api"
	"martello/inputs"
	"martello/lookup"
)

// todo is what is left to try: to go on from an instruction at a place; or, of what a way has kept that was tried, to put a place of the fit back.
type todo struct {
	pc, at int
	slot   int // which of the fit's; 0, if none is put back
}

// search is what one call goes through, and has come to.
type search struct {
	*Machine
	insts   []api.Inst
	in      *inputs.Input
	longest bool
	fit     []int // that of the way that is tried
	match   []int // nil, as long as there is none
	steps   int
}

// walk tries all ways from an instruction at a place, in order, until no later one can tell a better match. What was marked by walks ahead is not tried again: where these had no match, none lies behind it.
func (s *search) walk(pc, at int) {
	var next todo
	s.fit[0] = at
	s.left = s.left[:0]
	goto come
back:
	if len(s.left) == 0 {
		return
	}
	next, s.left = s.left[len(s.left)-1], s.left[:len(s.left)-1]
	if next.slot > 0 {
		s.steps++
		s.fit[next.slot] = next.at
		goto back
	}
	pc, at = next.pc, next.at
come:
	s.steps++
	if s.mark(pc, at) {
		goto back
	}
	switch inst := &s.insts[pc]; inst.Op {
	case api.InstMatch:
		s.end(at)
		if !s.longest || at == s.in.Len() {
			return
		}
	case api.InstSet:
		if lookup.Has(inst.Set, s.in.Rune(at)) {
			pc, at = inst.Out, at+1
			goto come
		}
	case api.InstAlt:
		s.left = append(s.left, todo{pc: inst.Arg, at: at})
		pc = inst.Out
		goto come
	case api.InstCap:
		s.left = append(s.left, todo{slot: inst.Arg, at: s.fit[inst.Arg]})
		s.fit[inst.Arg] = at
		pc = inst.Out
		goto come
	case api.InstAt:
		if inst.At&s.in.At(at) != 0 {
			pc = inst.Out
			goto come
		}
	}
	goto back
}

// end keeps the fit of a match at a place, if none ends as far.
func (s *search) end(at int) {
	if s.match != nil && s.match[1] >= at {
		return
	}
	s.steps += len(s.fit)
	s.match = append(s.match[:0], s.fit...)
	s.match[1] = at
}
