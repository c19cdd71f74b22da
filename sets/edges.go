package sets

import (
	"cmp"
	"iter"
	"slices"

	"martello/api"
)

// edge is a rune from which on so many more ranges hold than hold the rune ahead; below 0, fewer.
type edge struct {
	at   rune
	more int
}

// edges walks over where the ranges of lists begin, and where they have ended, rising: each such rune once, and how many more hold from there on.
// What begins where another one has ended is told as one, and so leaves no gap.
func edges(lists ...[]api.Range) iter.Seq2[rune, int] {
	return func(yield func(rune, int) bool) {
		l := ends(lists...)
		slices.SortFunc(l, func(a, b edge) int { return cmp.Compare(a.at, b.at) })
		for i := 0; i < len(l); {
			at, more := l[i].at, 0
			for ; i < len(l) && l[i].at == at; i++ {
				more += l[i].more
			}
			if !yield(at, more) {
				return
			}
		}
	}
}

// ends are both ends of each range that has a rune, cut to runes: where it begins, and the one behind its last.
func ends(lists ...[]api.Range) []edge {
	var l []edge
	for _, list := range lists {
		for _, r := range list {
			lo, hi := max(r.Lo, 0), min(r.Hi, api.MaxRune)
			if lo <= hi {
				l = append(l, edge{lo, 1}, edge{hi + 1, -1})
			}
		}
	}
	return l
}

// held is the set of the runes that as many ranges of the lists hold as enough tells.
func held(enough func(n int) bool, lists ...[]api.Range) []api.Range {
	var set []api.Range
	n, from, in := 0, rune(0), enough(0)
	for at, more := range edges(lists...) {
		n += more
		if enough(n) == in {
			continue
		}
		if in && from < at {
			set = append(set, api.Range{Lo: from, Hi: at - 1})
		}
		from, in = at, !in
	}
	if in && from <= api.MaxRune {
		set = append(set, api.Range{Lo: from, Hi: api.MaxRune})
	}
	return set
}
