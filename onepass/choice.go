package onepass

import (
	"cmp"
	"slices"

	"martello/api"
)

// mostRanges is how many ranges sets have at most that have no rune in common: as many as there are runes.
const mostRanges = api.MaxRune + 1

// anchored: does one come to nothing that reads or matches but where a text begins? Where an instruction is come to twice, it does not matter: the program is not one-pass then.
func (w *ways) anchored(start int) bool {
	loose := false
	w.each(start, func(pc int) bool {
		inst := &w.insts[pc]
		if inst.Op == api.InstSet || inst.Op == api.InstMatch {
			loose = true
		}
		return inst.Op != api.InstAt || inst.At != api.AtBegin
	})
	return !loose
}

// onePass: is there no choice where the program begins, nor behind any rune that is read?
func (w *ways) onePass(start int) bool {
	begun := make([]bool, len(w.insts))
	begun[start] = true
	starts := []int{start}
	begin := func(pc int) {
		if !begun[pc] {
			begun[pc] = true
			starts = append(starts, pc)
		}
	}
	for len(starts) > 0 {
		last := len(starts) - 1
		from := starts[last]
		starts = starts[:last]
		if !w.sure(from, begin) {
			return false
		}
	}
	return true
}

// sure: from an instruction, does one come to each once, to one match at most, and to sets that have no rune in common? Where these lead to is handed on.
func (w *ways) sure(from int, lead func(out int)) bool {
	matches := 0
	var ranges []api.Range
	twice := w.each(from, func(pc int) bool {
		switch inst := &w.insts[pc]; inst.Op {
		case api.InstMatch:
			matches++
		case api.InstSet:
			lead(inst.Out)
			if len(ranges) <= mostRanges { // one set may stand in all instructions
				ranges = append(ranges, inst.Set...)
			}
		}
		return true
	})
	return !twice && matches <= 1 && apart(ranges)
}

// apart: has no range a rune of another one? They are put in order.
func apart(l []api.Range) bool {
	slices.SortFunc(l, func(a, b api.Range) int { return cmp.Compare(a.Lo, b.Lo) })
	for i := 1; i < len(l); i++ {
		if l[i].Lo <= l[i-1].Hi {
			return false
		}
	}
	return true
}
