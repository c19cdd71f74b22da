package printer_test

import (
	"slices"
	"testing"

	"martello/api"
	. "martello/samples"
)

// TestWrong: trees that are not right, of each kind, have no text.
func TestWrong(t *testing.T) {
	for _, bad := range slices.Concat(Misshapen(), Misnumbered(), TooGreat()) {
		refuses(t, bad)
	}
}

// TestEmptyLists: lists without items are none, nil or not.
func TestEmptyLists(t *testing.T) {
	prints(t, api.Tree{Op: api.OpRune, Rune: 'a', Kids: []api.Tree{}, Set: []api.Range{}}, "a")
	prints(t, api.Tree{Op: api.OpCat, Kids: []api.Tree{}, Set: []api.Range{}}, "(?:)")
	prints(t, api.Tree{Op: api.OpNone, Kids: []api.Tree{}}, `[^\x{0}-\x{10ffff}]`)
	refuses(t, api.Tree{Op: api.OpAlt, Kids: []api.Tree{}})
}
