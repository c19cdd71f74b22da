package printer_test

import (
	"strings"
	"testing"

	"martello/api"
	"martello/printer"
	. "martello/samples"
	"martello/trees"
)

// named is a text with the names of groups in the places of @, as they begin.
func named(text string) string {
	pieces := strings.Split(text, "@")
	all := pieces[0]
	for i, piece := range pieces[1:] {
		all += Name(i+1) + piece
	}
	return all
}

// prints holds Print of a tree against its text.
func prints(t *testing.T, tree api.Tree, want string) {
	t.Helper()
	if text, e := printer.Print(tree); text != want || e != api.OK {
		t.Errorf("Print of %.400s: %.400q, %d; not %.400q", Shown(tree), text, e, want)
	}
}

// refuses holds Print of a tree that is not right.
func refuses(t *testing.T, tree api.Tree) {
	t.Helper()
	if trees.Right(tree) {
		t.Errorf("%.400s: right", Shown(tree))
	}
	if text, e := printer.Print(tree); text != "" || e != api.ErrTreeForm {
		t.Errorf("Print of %.400s: %.400q, %d; not the error 51", Shown(tree), text, e)
	}
}
