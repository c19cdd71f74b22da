package progs

import (
	"slices"

	"martello/api"
	"martello/sets"
)

// mostCaps is how many places of groups a program may have: two of each, the whole among them.
const mostCaps = 2*api.MaxGroups + 2

// right: is all of a program as it must be?
func right(p api.Prog) bool {
	if len(p.Insts) > api.MaxInsts || !isPlace(p, p.Start) || p.Caps < 2 || p.Caps > mostCaps || p.Caps%2 != 0 {
		return false
	}
	return !slices.ContainsFunc(p.Insts, func(i api.Inst) bool { return !sound(p, i) })
}

// sound: is an instruction of a program as it must be? Fields that its Op has not must be zero.
func sound(p api.Prog, i api.Inst) bool {
	out, arg, set, at := i.Out == 0, i.Arg == 0, len(i.Set) == 0, i.At == 0
	switch i.Op {
	case api.InstMatch, api.InstFail:
	case api.InstSet:
		out, set = isPlace(p, i.Out), len(i.Set) > 0 && sets.Right(i.Set)
	case api.InstAlt:
		out, arg = isPlace(p, i.Out), isPlace(p, i.Arg)
	case api.InstCap:
		out, arg = isPlace(p, i.Out), i.Arg >= 2 && i.Arg < p.Caps
	case api.InstAt:
		out, at = isPlace(p, i.Out), isAt(i.At)
	default:
		return false
	}
	return out && arg && set && at
}

// isAt: is it just one of what a place may be?
func isAt(at api.At) bool {
	switch at {
	case api.AtBegin, api.AtEnd, api.AtBeginLine, api.AtEndLine, api.AtWord, api.AtNoWord:
		return true
	}
	return false
}

// isPlace: does an instruction of the program stand there?
func isPlace(p api.Prog, pc int) bool { return pc >= 0 && pc < len(p.Insts) }

// arePlaces: does one stand at each of these?
func arePlaces(p api.Prog, pcs []int) bool {
	return !slices.ContainsFunc(pcs, func(pc int) bool { return !isPlace(p, pc) })
}
