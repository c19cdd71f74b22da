package onepass

import "martello/api"

// ways are those that lead from an instruction to others, and read nothing.
type ways struct {
	insts []api.Inst
	met   []int // of each instruction the round in which it was come to last
	by    []int // of each one from which it was come to; -1, where a round began
	round int
	left  []int // what is still to be come to, the next one last
}

// through are the ways through a program.
func through(insts []api.Inst) ways {
	return ways{insts: insts, met: make([]int, len(insts)), by: make([]int, len(insts))}
}

// each goes all ways from an instruction, in order, and hands on what is come to: what come tells is whether a way goes on behind it. Where an instruction is come to twice, it ends, and tells so.
func (w *ways) each(from int, come func(pc int) bool) (twice bool) {
	w.round++
	w.left = w.left[:0]
	w.lead(-1, from)
search:
	for len(w.left) > 0 {
		last := len(w.left) - 1
		pc := w.left[last]
		w.left = w.left[:last]
		switch inst := &w.insts[pc]; {
		case w.met[pc] == w.round:
			twice = true
			break search
		case !come(pc):
		case inst.Op == api.InstAlt:
			w.lead(pc, inst.Arg)
			w.lead(pc, inst.Out)
		case inst.Op == api.InstCap, inst.Op == api.InstAt:
			w.lead(pc, inst.Out)
		}
		w.met[pc] = w.round
	}
	return twice
}

// lead puts an instruction, by another one, ahead of all that is left.
func (w *ways) lead(by, to int) {
	w.by[to] = by
	w.left = append(w.left, to)
}
