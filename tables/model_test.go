package tables_test

import (
	"slices"
	"strconv"
	"strings"
	"testing"

	"martello/api"
)

// chapterSets are the lines of the chapter's table of names, as they stand there.
const chapterSets = `
Lu | 41-5A, C0-D6, D8-DE, 391-3A1, 3A3-3A9, 410-42F
Ll | 61-7A, DF-F6, F8-FF, 3B1-3C9, 430-44F
L | 41-5A, 61-7A, AA, BA, C0-D6, D8-F6, F8-FF, 391-3A1, 3A3-3A9, 3B1-3C9, 410-44F, 4E00-9FFF
Nd | 30-39, 660-669
N | 30-39, B2-B3, B9, BC-BE, 660-669, 2160-2188
P | 21-23, 25-2A, 2C-2F, 3A-3B, 3F-40, 5B-5D, 5F, 7B, 7D, A1, A7, AB, B6-B7, BB, BF
S | 24, 2B, 3C-3E, 5E, 60, 7C, 7E, A2-A6, A8-A9, AC, AE-B1, B4, B8, D7, F7
Z | 20, A0, 2000-200A, 2028-2029, 202F, 3000
Cc | 0-1F, 7F-9F
Latin | 41-5A, 61-7A, AA, BA, C0-D6, D8-F6, F8-24F, 212A-212B
Greek | 370-373, 375-377, 37A-37D, 37F, 384, 386, 388-38A, 38C, 38E-3A1, 3A3-3E1
Cyrillic | 400-484, 487-52F
Han | 4E00-9FFF
`

// The chapter's words of what is alike: those told one by one, and the ones of which each other rune is alike with the one 20 above it.
const (
	chapterAlike  = "4B 6B 212A; 53 73 17F; C5 E5 212B; B5 39C 3BC; 3A3 3C2 3C3; DF 1E9E; FF 178"
	chapterOthers = "41-5A, C0-D6, D8-DE, 391-3A1, 3A4-3A9, 410-42F"
)

// hex is a number of the chapter.
func hex(s string) rune {
	n, err := strconv.ParseInt(s, 16, 32)
	if err != nil {
		panic(err)
	}
	return rune(n)
}

// listOf are ranges as the chapter writes them: `30-39, AA`.
func listOf(text string) []api.Range {
	var l []api.Range
	for _, s := range strings.Split(text, ", ") {
		lo, hi, found := strings.Cut(s, "-")
		if !found {
			hi = lo
		}
		l = append(l, api.Range{Lo: hex(lo), Hi: hex(hi)})
	}
	return l
}

// namesAndSets are the chapter's table, by its names.
func namesAndSets() map[string][]api.Range {
	all := map[string][]api.Range{}
	for _, line := range strings.Split(strings.TrimSpace(chapterSets), "\n") {
		name, set, _ := strings.Cut(line, " | ")
		all[name] = listOf(set)
	}
	return all
}

// orbits are what the chapter tells to be alike, by each rune; runes that are alike with none are not in it.
type orbits map[rune][]rune

func allOrbits() orbits {
	all := orbits{}
	for _, s := range strings.Split(chapterAlike, "; ") {
		var o []rune
		for _, c := range strings.Fields(s) {
			o = append(o, hex(c))
		}
		all.add(o)
	}
	for _, r := range listOf(chapterOthers) {
		for c := r.Lo; c <= r.Hi; c++ {
			if all[c] == nil {
				all.add([]rune{c, c + 0x20})
			}
		}
	}
	return all
}

func (all orbits) add(o []rune) {
	for _, c := range o {
		if all[c] != nil {
			panic("a rune of two orbits: " + strconv.Itoa(int(c)))
		}
		all[c] = o
	}
}

// of is the orbit of a rune.
func (all orbits) of(c rune) []rune {
	if o := all[c]; o != nil {
		return o
	}
	return []rune{c}
}

// letters are all runes that are alike with others, rising.
func (all orbits) letters() []rune {
	var l []rune
	for c := range all {
		l = append(l, c)
	}
	slices.Sort(l)
	return l
}

// has is layer 2's HAS, word by word.
func has(l []api.Range, c rune) bool {
	return slices.ContainsFunc(l, func(r api.Range) bool { return 0 <= c && c <= 0x10ffff && r.Lo <= c && c <= r.Hi })
}

// folded is the set of the orbits of all runes of a list. From one of these cuts to the next all runes are in the list, or none, and each is alike with others alone, or all with none.
func (all orbits) folded(l []api.Range) []api.Range {
	cuts := []rune{0}
	cut := func(c rune) {
		if 0 < c && c <= 0x10ffff {
			cuts = append(cuts, c)
		}
	}
	for _, r := range l {
		cut(r.Lo)
		cut(min(r.Hi, 0x10ffff) + 1)
	}
	for c := range all {
		cut(c)
		cut(c + 1)
	}
	slices.Sort(cuts)
	cuts = slices.Compact(cuts)
	var set []api.Range
	for i, c := range cuts {
		last := rune(0x10ffff)
		if i+1 < len(cuts) {
			last = cuts[i+1] - 1
		}
		if all.has(l, c) {
			set = joined(set, c, last)
		}
	}
	return set
}

// has: does a list have a rune that is alike with c, or c?
func (all orbits) has(l []api.Range, c rune) bool {
	return slices.ContainsFunc(all.of(c), func(d rune) bool { return has(l, d) })
}

// joined is a set, and all from lo to hi, which stand behind it.
func joined(set []api.Range, lo, hi rune) []api.Range {
	if n := len(set); n > 0 && set[n-1].Hi == lo-1 {
		set[n-1].Hi = hi
		return set
	}
	return append(set, api.Range{Lo: lo, Hi: hi})
}

// same tells whether two lists are the same; nil and empty are.
func same[E comparable](a, b []E) bool { return slices.Equal(a, b) }

// ranges are a list of them, by both ends each.
func ranges(ends ...rune) []api.Range {
	var l []api.Range
	for i := 0; i+1 < len(ends); i += 2 {
		l = append(l, api.Range{Lo: ends[i], Hi: ends[i+1]})
	}
	return l
}

// TestModel: the model's folding, against one bool for each rune.
func TestModel(t *testing.T) {
	all := allOrbits()
	if n := len(all); n != 19+2*(24+22+7+16+6+32) {
		t.Errorf("%d runes are alike with others", n)
	}
	for _, l := range [][]api.Range{nil, ranges('k', 'k'), ranges(0, 0x10ffff), ranges('a', 'm', 'Z', 'Y'), ranges(0xb5, 0xdf, -5, 'B', 0x400, 0x430), ranges(0x1e9e, 0x110000)} {
		var want []api.Range
		for c := rune(0); c <= 0x10ffff; c++ {
			if all.has(l, c) {
				want = joined(want, c, c)
			}
		}
		if m := all.folded(l); !same(m, want) {
			t.Errorf("%x: the model folds it to %x; not %x", l, m, want)
		}
	}
}
