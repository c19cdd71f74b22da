// Package lookup asks sets for runes as often as machines do; it is beside the layers. What layer 2 tells of any list, it tells of a set, whose ranges rise, without going through all of them.
package lookup

import (
	"slices"

	"martello/api"
)

// Has: is a rune in a set (layer 2)?
func Has(set []api.Range, c rune) bool {
	_, found := slices.BinarySearchFunc(set, c, func(r api.Range, c rune) int {
		switch {
		case r.Hi < c:
			return -1
		case r.Lo > c:
			return 1
		}
		return 0
	})
	return found
}
