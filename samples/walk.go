package samples

import (
	"slices"

	"martello/api"
	"martello/inputs"
	"martello/sets"
)

// Walked are the matches of a program's walk from a place, in order, by layer 12's words: each instruction is come to once at each place.
func Walked(p api.Prog, in *inputs.Input, from int) [][]int {
	var matches [][]int
	fit := slices.Repeat([]int{-1}, p.Caps)
	fit[0] = from
	met := map[[2]int]struct{}{}
	var come func(pc, at int)
	come = func(pc, at int) {
		if _, is := met[[2]int{pc, at}]; is {
			return
		}
		met[[2]int{pc, at}] = struct{}{}
		switch i := p.Insts[pc]; i.Op {
		case api.InstMatch:
			match := slices.Clone(fit)
			match[1] = at
			matches = append(matches, match)
		case api.InstSet:
			if sets.Has(i.Set, in.Rune(at)) {
				come(i.Out, at+1)
			}
		case api.InstAlt:
			come(i.Out, at)
			come(i.Arg, at)
		case api.InstCap:
			was := fit[i.Arg]
			fit[i.Arg] = at
			come(i.Out, at)
			fit[i.Arg] = was
		case api.InstAt:
			if in.At(at)&i.At != 0 {
				come(i.Out, at)
			}
		}
	}
	come(p.Start, from)
	return matches
}

// WalksMatch is the walk's match from a place: the first one; longest, the first of those that end farthest; nil, if there is none.
func WalksMatch(p api.Prog, in *inputs.Input, from int, longest bool) []int {
	var best []int
	for _, match := range Walked(p, in, from) {
		if best == nil || longest && match[1] > best[1] {
			best = match
		}
	}
	return best
}
