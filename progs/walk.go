package progs

import (
	"slices"

	"martello/api"
)

// comeTo goes from some instructions, one behind the other, to all to which one comes from them at a place, each the first time alone: those that read are told in order, and whether one matches. Without longest it ends there.
func comeTo(insts []api.Inst, pcs []int, at api.At, longest bool) (reads []int, match bool) {
	var (
		met  = make([]bool, len(insts))
		left = slices.Clone(pcs) // the next one last
		pc   int
	)
	slices.Reverse(left)
back:
	if len(left) == 0 {
		return reads, match
	}
	pc, left = left[len(left)-1], left[:len(left)-1]
on:
	if met[pc] {
		goto back
	}
	met[pc] = true
	switch inst := &insts[pc]; inst.Op {
	case api.InstMatch:
		match = true
		if !longest {
			return reads, match
		}
	case api.InstSet:
		reads = append(reads, pc)
	case api.InstAlt:
		left = append(left, inst.Arg)
		pc = inst.Out
		goto on
	case api.InstCap:
		pc = inst.Out
		goto on
	case api.InstAt:
		if inst.At&at != 0 {
			pc = inst.Out
			goto on
		}
	}
	goto back
}
