package printer_test

import (
	"math"
	"slices"
	"strings"
	"testing"

	"martello/api"
)

// misshapen are trees with one thing wrong each, whatever stands around.
func misshapen() []api.Tree {
	a, b := letter('a'), letter('b')
	return []api.Tree{
		{}, {Op: -1}, {Op: 13}, {Op: math.MinInt}, {Op: math.MaxInt}, {Op: 13, Kids: []api.Tree{a}}, {Op: 0, Kids: []api.Tree{a}}, {Op: 16, Rune: 'a'}, // no Op
		of(api.OpNone, a), of(api.OpEmpty, a), {Op: api.OpRune, Rune: 'a', Kids: []api.Tree{b}}, {Op: api.OpSet, Set: ranges(1, 2), Kids: []api.Tree{a}}, {Op: api.OpAt, At: 1, Kids: []api.Tree{a}}, // a Kid too many
		of(api.OpStar, a, b), of(api.OpPlus, a, b), of(api.OpQuest, a, b), {Op: api.OpRepeat, Max: 1, Kids: []api.Tree{a, b}},
		of(api.OpStar), of(api.OpPlus), of(api.OpQuest), {Op: api.OpRepeat, Max: 1}, alt(), {Op: api.OpAlt, Kids: []api.Tree{}}, // a Kid too few
		letter(-1), letter(0x110000), letter(math.MinInt32), letter(math.MaxInt32), // no rune
		set(), {Op: api.OpSet, Set: []api.Range{}}, set(5, 4), set(1, 2, 3, 4), set(1, 5, 5, 9), set(7, 9, 1, 5), set(-1, 5), set(5, 0x110000), // no set, or one without a range
		at(0), at(3), at(5), at(12), at(48), at(63), at(64), at(-1), at(math.MinInt), at(math.MaxInt), // none of the six
		repeat(-1, 5, a), repeat(-1, -1, a), repeat(1001, -1, a), repeat(1001, 1001, a), repeat(1000, 1001, a), repeat(0, 1001, a), repeat(0, -2, a), repeat(2, 1, a), repeat(1000, 999, a), repeat(2, 0, a), repeat(math.MinInt, 0, a), repeat(0, math.MinInt, a), repeat(math.MaxInt, -1, a), repeat(math.MaxInt, math.MaxInt, a), // no count
	}
}

// TestMisshapen: what makes a tree none is told as that, alone, and wherever it stands.
func TestMisshapen(t *testing.T) {
	a := letter('a')
	for _, bad := range misshapen() {
		for _, tree := range []api.Tree{
			bad, star(bad), plus(bad), lazy(quest(bad)), repeat(0, 0, bad), repeat(2, 3, bad), grp(1, "", bad), grp(1, "x", bad), cat(bad), cat(a, bad), cat(bad, a), cat(a, bad, a), alt(bad), alt(a, bad), alt(bad, a), cat(alt(cat(bad))), star(cat(a, alt(a, plus(grp(1, "", bad))))),
		} {
			refuses(t, tree)
		}
	}
}

// TestWrongGroups: groups that have no number or no name of one, or are not numbered as they begin, or have a name twice.
func TestWrongGroups(t *testing.T) {
	a := letter('a')
	for _, bad := range []api.Tree{
		grp(0, "", a), grp(-1, "", a), grp(2, "", a), grp(math.MinInt, "", a), grp(math.MaxInt, "x", a), {Op: api.OpCap, Cap: 1}, {Op: api.OpCap, Cap: 1, Kids: []api.Tree{a, a}},
		cat(grp(2, "", a), grp(1, "", a)), cat(grp(1, "", a), grp(1, "", a)), cat(grp(1, "", a), grp(3, "", a)), grp(2, "", grp(1, "", a)), grp(1, "", grp(1, "", a)), alt(grp(1, "", grp(3, "", a)), grp(2, "", a)), star(cat(grp(1, "", a), alt(a, grp(3, "", a)))),
		cat(grp(1, "x", a), grp(2, "x", a)), grp(1, "x", grp(2, "x", a)), alt(grp(1, "x", a), grp(2, "y", a), star(grp(3, "x", a))),
	} {
		refuses(t, bad)
		refuses(t, cat(bad, a))
		refuses(t, plus(alt(a, bad)))
	}
	for _, name := range []string{"9", "0x", " ", "x ", " x", "a-b", "a.b", "é", "xé", "x\x00", "\x00", "\xff", "x\xff", "x>", ">", "<", "@", "[", "`", "{", "a/", "a:", strings.Repeat("n", 33), strings.Repeat("n", 70000)} {
		refuses(t, grp(1, name, a))
		refuses(t, cat(a, star(grp(1, name, a))))
	}
}

// TestOtherFields: a field that an Op has not, and is not zero.
func TestOtherFields(t *testing.T) {
	has := map[string][]api.Op{
		"Rune": {api.OpRune}, "Set": {api.OpSet}, "At": {api.OpAt}, "Cap": {api.OpCap}, "Name": {api.OpCap}, "Min": {api.OpRepeat}, "Max": {api.OpRepeat}, "Lazy": {api.OpStar, api.OpPlus, api.OpQuest, api.OpRepeat},
	}
	a := letter('a')
	for _, tree := range []api.Tree{none(), empty(), a, set('a', 'b'), at(1), grp(1, "x", a), star(a), plus(a), quest(a), repeat(1, 2, a), cat(), cat(a), cat(a, a), alt(a), alt(a, a)} {
		for field, ops := range has {
			bad := tree
			switch field {
			case "Rune":
				bad.Rune = 'b'
			case "Set":
				bad.Set = ranges('c', 'd')
			case "At":
				bad.At = api.AtEnd
			case "Cap":
				bad.Cap = 1
			case "Name":
				bad.Name = "y"
			case "Min":
				bad.Min = 1
			case "Max":
				bad.Max = 1
			case "Lazy":
				bad.Lazy = true
			}
			if !slices.Contains(ops, tree.Op) {
				refuses(t, bad)
				refuses(t, cat(a, bad))
			}
		}
	}
}

// TestEmptyLists: lists without items are none, nil or not.
func TestEmptyLists(t *testing.T) {
	prints(t, api.Tree{Op: api.OpRune, Rune: 'a', Kids: []api.Tree{}, Set: []api.Range{}}, "a")
	prints(t, api.Tree{Op: api.OpCat, Kids: []api.Tree{}, Set: []api.Range{}}, "(?:)")
	prints(t, api.Tree{Op: api.OpNone, Kids: []api.Tree{}}, `[^\x{0}-\x{10ffff}]`)
	refuses(t, api.Tree{Op: api.OpAlt, Kids: []api.Tree{}})
}
