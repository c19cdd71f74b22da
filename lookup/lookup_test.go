package lookup_test

import (
	"math"
	"testing"

	"martello/api"
	"martello/lookup"
	. "martello/samples"
	"martello/sets"
)

// asLayer2 holds Has of a set against layer 2's, at each range's ends, beside them, and of what is no rune.
func asLayer2(t *testing.T, set []api.Range) {
	t.Helper()
	if !sets.Right(set) {
		t.Fatalf("%x: no set", set)
	}
	asked := []rune{math.MinInt32, -1, 0, 1, 'a', 0xd800, 0x10fffe, 0x10ffff, 0x110000, math.MaxInt32}
	for _, r := range set {
		asked = append(asked, r.Lo-1, r.Lo, r.Lo+1, (r.Lo+r.Hi)/2, r.Hi-1, r.Hi, r.Hi+1)
	}
	for _, c := range asked {
		if have, want := lookup.Has(set, c), sets.Has(set, c); have != want {
			t.Errorf("%x in %x: %t, not %t", c, set, have, want)
		}
	}
}

// TestHas: sets of no range, of one, and of several.
func TestHas(t *testing.T) {
	asLayer2(t, nil)
	asLayer2(t, []api.Range{})
	for _, set := range RightSets() {
		asLayer2(t, set)
	}
	for n := range rune(40) {
		var set []api.Range
		for i := range n {
			set = append(set, Ranges(100+7*i, 100+7*i+i%6)...)
		}
		asLayer2(t, set)
	}
}
