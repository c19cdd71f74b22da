package tables

import "martello/api"

// apart is how far a small letter stands above the great one, where a rule tells which are alike.
const apart = 0x20

// orbit is a rune and all that are alike with it, rising: as many as its size tells.
type orbit struct {
	size  int
	runes [3]rune
}

// odd are the orbits that are told one by one: of three runes, or of two that are not apart as others are.
var odd = [...]orbit{
	{3, [3]rune{0x4B, 0x6B, 0x212A}},
	{3, [3]rune{0x53, 0x73, 0x17F}},
	{3, [3]rune{0xC5, 0xE5, 0x212B}},
	{3, [3]rune{0xB5, 0x39C, 0x3BC}},
	{3, [3]rune{0x3A3, 0x3C2, 0x3C3}},
	{2, [3]rune{0xDF, 0x1E9E}},
	{2, [3]rune{0xFF, 0x178}},
}

// great are the runes that, where no odd orbit has them, are alike with the one that stands apart above them.
var great = [...]span{{0x41, 0x5A}, {0xC0, 0xD6}, {0xD8, 0xDE}, {0x391, 0x3A1}, {0x3A4, 0x3A9}, {0x410, 0x42F}}

// orbitOf is the orbit of a rune. The odd ones come first: some of their runes stand among the great ones, or above them.
func orbitOf(c rune) orbit {
	for _, o := range odd {
		if o.has(c) {
			return o
		}
	}
	for _, s := range great {
		if s.has(c) {
			return orbit{2, [3]rune{c, c + apart}}
		}
		if s.has(c - apart) {
			return orbit{2, [3]rune{c - apart, c}}
		}
	}
	return orbit{1, [3]rune{c}}
}

// each hands the runes of an orbit on, rising.
func (o orbit) each(hand func(c rune)) {
	for i := range o.size {
		hand(o.runes[i])
	}
}

// has: is a rune in an orbit?
func (o orbit) has(c rune) bool {
	for i := range o.size {
		if o.runes[i] == c {
			return true
		}
	}
	return false
}

// letters are all runes that are alike with others, as a list that is no set: some stand in it twice.
func letters() []api.Range {
	var l []api.Range
	add := func(s span) { l = append(l, s.asRange()) }
	for _, o := range odd {
		o.each(func(c rune) { add(span{c, c}) })
	}
	for _, s := range great {
		add(s)
		add(span{s[0] + apart, s[1] + apart})
	}
	return l
}
