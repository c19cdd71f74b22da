package inputs

import (
	"slices"
	"unicode/utf8"

	"martello/api"
)

// lineFeed is the rune between lines.
const lineFeed = '\n'

// decoded is what inputs of all kinds have in common: a text, and its runes.
type decoded struct {
	text  string // not the list that was handed in, which others may change
	runes []rune
	offs  []int // of each place its byte: one more than there are runes
}

// decode goes through a text; the range takes one byte as U+FFFD where no UTF-8 stands.
func decode(text string) decoded {
	n := utf8.RuneCountInString(text)
	d := decoded{text: text, runes: make([]rune, 0, n), offs: make([]int, 0, n+1)}
	for off, c := range text {
		d.runes = append(d.runes, c)
		d.offs = append(d.offs, off)
	}
	d.offs = append(d.offs, len(text))
	return d
}

// Len is how many runes there are.
func (d *decoded) Len() int { return len(d.runes) }

// Rune is the rune i; -1, if there is none.
func (d *decoded) Rune(i int) rune {
	if i < 0 || i >= len(d.runes) {
		return -1
	}
	return d.runes[i]
}

// Off is the byte of the place i; -1, if it is none.
func (d *decoded) Off(i int) int {
	if !d.isPlace(i) {
		return -1
	}
	return d.offs[i]
}

// Place is the place of the byte off; -1, if there is none.
func (d *decoded) Place(off int) int {
	i, found := slices.BinarySearch(d.offs, off)
	if !found {
		return -1
	}
	return i
}

// Bytes are those between two places; nothing, if one is none, or they fall.
func (d *decoded) Bytes(from int, to int) []byte {
	if !d.isPlace(from) || !d.isPlace(to) || from > to {
		return nil
	}
	return []byte(d.text[d.offs[from]:d.offs[to]])
}

// At is the sum of what the place i is; 0, if it is none.
func (d *decoded) At(i int) api.At {
	if !d.isPlace(i) {
		return 0
	}
	first, last := i == 0, i == d.Len()
	ahead, behind := d.Rune(i-1), d.Rune(i)
	at := api.AtNoWord
	if isWord(ahead) != isWord(behind) {
		at = api.AtWord
	}
	if first {
		at += api.AtBegin
	}
	if last {
		at += api.AtEnd
	}
	if first || ahead == lineFeed {
		at += api.AtBeginLine
	}
	if last || behind == lineFeed {
		at += api.AtEndLine
	}
	return at
}

// isPlace tells whether i is a place: the last one is behind all runes.
func (d *decoded) isPlace(i int) bool { return i >= 0 && i < len(d.offs) }

// isWord tells whether c is a word's rune; -1, where there is no rune, is none.
func isWord(c rune) bool {
	return c >= '0' && c <= '9' || c >= 'A' && c <= 'Z' || c >= 'a' && c <= 'z' || c == '_'
}
