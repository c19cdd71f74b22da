package prefix

import (
	"slices"

	"martello/inputs"
)

// Index is the first place from one on at which runes stand; -1, if there is none.
func Index(in *inputs.Input, l []rune, from int) int {
	if in == nil {
		return -1
	}
	last := len(l) - 1
	// The rune at the last one's place must come to stand under one like it, ahead of the last. To look for that takes no longer than the way that is saved by it, so no table is made ahead.
	moved := func(c rune) int {
		for n := 1; n <= last; n++ {
			if l[last-n] == c {
				return n
			}
		}
		return len(l)
	}
	found := -1
search:
	for at := max(from, 0); at <= in.Len()-len(l); at += moved(in.Rune(at + last)) {
		for i, c := range slices.Backward(l) {
			if in.Rune(at+i) != c {
				continue search
			}
		}
		found = at
		break search
	}
	return found
}
