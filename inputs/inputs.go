// Package inputs is layer 1: texts, rune by rune, and what each place in them is; see shared/doc/01-inputs.md.
package inputs

import (
	"unicode/utf8"

	"martello/api"
)

// Input is a text, rune by rune, of one of three kinds. Kinds differ in what may be asked of them higher up; all that is told of the text itself they have in common.
type Input struct {
	kind api.Kind
	decoded
}

// New is the input of a kind and a text: ErrArg of a kind that there is not, then ErrTooMany of more than MaxText bytes.
func New(k api.Kind, text []byte) (*Input, api.Errno) {
	switch k {
	case api.KindText, api.KindBytes, api.KindReader:
	default:
		return nil, api.ErrArg
	}
	if len(text) > api.MaxText {
		return nil, api.ErrTooMany
	}
	return &Input{kind: k, decoded: decode(string(text))}, api.OK
}

// Kind is what the input is made of.
func (in *Input) Kind() api.Kind { return in.kind }

// Turned is the input, of the same kind, of the runes from behind. MaxText does not bound it: a byte that was no UTF-8 comes out as the three bytes of U+FFFD.
func (in *Input) Turned() *Input {
	text := make([]byte, 0, len(in.text))
	for i := in.Len() - 1; i >= 0; i-- {
		text = utf8.AppendRune(text, in.Rune(i))
	}
	return &Input{kind: in.kind, decoded: decode(string(text))}
}
