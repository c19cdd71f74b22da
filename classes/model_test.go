package classes_test

import (
	"slices"
	"strconv"
	"strings"
	"testing"

	"martello/api"
)

// chapterNames are the lines of the chapter's table of names between colons, as they stand there.
const chapterNames = `
alnum | 30-39, 41-5A, 61-7A
alpha | 41-5A, 61-7A
ascii | 0-7F
blank | 9, 20
cntrl | 0-1F, 7F
digit | 30-39
graph | 21-7E
lower | 61-7A
print | 20-7E
punct | 21-2F, 3A-40, 5B-60, 7B-7E
space | 9-D, 20
upper | 41-5A
word | 30-39, 41-5A, 5F, 61-7A
xdigit | 30-39, 41-46, 61-66
`

// chapterLetters are the chapter's letters, and their sets.
const chapterLetters = `
d | 30-39
s | 9-A, C-D, 20
w | 30-39, 41-5A, 5F, 61-7A
`

// tableNames are the names of layer 3.
const tableNames = "Lu Ll L Nd N P S Z Cc Latin Greek Cyrillic Han"

// table are the lines of one of the chapter's tables, by what they name.
func table(lines string) map[string][]api.Range {
	all := map[string][]api.Range{}
	for _, line := range strings.Split(strings.TrimSpace(lines), "\n") {
		name, set, _ := strings.Cut(line, " | ")
		all[name] = listOf(set)
	}
	return all
}

// listOf are ranges as the chapter writes them: `30-39, AA`.
func listOf(text string) []api.Range {
	var l []api.Range
	for _, s := range strings.Split(text, ", ") {
		lo, hi, found := strings.Cut(s, "-")
		if !found {
			hi = lo
		}
		l = append(l, api.Range{Lo: hex(lo), Hi: hex(hi)})
	}
	return l
}

// hex is a number of the chapter.
func hex(s string) rune {
	n, err := strconv.ParseInt(s, 16, 32)
	if err != nil {
		panic(err)
	}
	return rune(n)
}

// everything are all runes.
func everything() []api.Range { return listOf("0-10FFFF") }

// others are all runes that a set does not have: what lies ahead of its ranges, between two, and behind.
func others(set []api.Range) []api.Range {
	var l []api.Range
	next := rune(0)
	for _, r := range set {
		if next < r.Lo {
			l = append(l, api.Range{Lo: next, Hi: r.Lo - 1})
		}
		next = r.Hi + 1
	}
	if next <= 0x10ffff {
		l = append(l, api.Range{Lo: next, Hi: 0x10ffff})
	}
	return l
}

// tells holds an answer against a set that there is.
func tells(t *testing.T, call string, l []api.Range, ok bool, want []api.Range) {
	t.Helper()
	if !ok || !slices.Equal(l, want) {
		t.Errorf("%s: %x, %v; not %x", call, l, ok, want)
	}
}

// tellsNone holds an answer against there being no such set: nothing stands beside the false.
func tellsNone(t *testing.T, call string, l []api.Range, ok bool) {
	t.Helper()
	if ok || len(l) != 0 {
		t.Errorf("%.40q: %x, %v; there is none", call, l, ok)
	}
}

// apart holds two sets against one another, rune by rune: each rune is in just one of them.
func apart(t *testing.T, call string, a, b []api.Range) {
	t.Helper()
	for c := rune(-2); c <= 0x110001; c++ {
		isRune := 0 <= c && c <= 0x10ffff
		if in, other := within(a, c), within(b, c); isRune != (in != other) || !isRune && in {
			t.Errorf("%s: %x: %v in the one, %v in the other", call, c, in, other)
			return
		}
	}
}

// within: does a rune lie in one of the ranges?
func within(l []api.Range, c rune) bool {
	for _, r := range l {
		if r.Lo <= c && c <= r.Hi {
			return true
		}
	}
	return false
}
