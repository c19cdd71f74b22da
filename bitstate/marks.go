package bitstate

import "slices"

// wordBits is how many bits stand in a word of them.
const wordBits = 64

// marks has a bit for each instruction at each place: was it come to there?
type marks struct {
	bits  []uint64
	insts int
}

// unmark takes away all marks of so many instructions at so many places.
func (m *marks) unmark(insts, places int) {
	m.insts = insts
	words := (insts*places + wordBits - 1) / wordBits
	m.bits = slices.Grow(m.bits[:0], words)[:words]
	clear(m.bits)
}

// mark marks an instruction at a place; was it marked already?
func (m *marks) mark(pc, at int) bool {
	n := at*m.insts + pc
	word, bit := &m.bits[n/wordBits], uint64(1)<<(n%wordBits)
	was := *word&bit != 0
	*word |= bit
	return was
}
