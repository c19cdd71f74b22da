package simplify_test

import (
	"slices"
	"testing"

	"martello/api"
	. "martello/samples"
)

// TestWrong: P10.1, rule P2: trees that are not right, of each kind, are a zero tree.
func TestWrong(t *testing.T) {
	for _, bad := range slices.Concat(Misshapen(), Misnumbered(), TooGreat()) {
		refuses(t, bad)
	}
}

// TestEmptyLists: lists without items are none, nil or not.
func TestEmptyLists(t *testing.T) {
	simple(t, api.Tree{Op: api.OpRune, Rune: 'a', Kids: []api.Tree{}, Set: []api.Range{}}, Letter('a'))
	simple(t, api.Tree{Op: api.OpCat, Kids: []api.Tree{}, Set: []api.Range{}}, Empty())
	simple(t, api.Tree{Op: api.OpNone, Kids: []api.Tree{}}, None())
}
