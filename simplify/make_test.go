package simplify_test

import (
	"slices"
	"testing"

	"martello/api"
	. "martello/samples"
	"martello/simplify"
	"martello/trees"
)

// simple holds Simple of a right tree against what it must tell, and what is told against what is promised of all that is.
func simple(t *testing.T, tree, want api.Tree) {
	t.Helper()
	told := simplify.Simple(tree)
	if !trees.Right(tree) {
		t.Errorf("%.400s: not right", Shown(tree))
	}
	if !Same(told, want) {
		t.Errorf("Simple of %.400s: %.400s, not %.400s", Shown(tree), Shown(told), Shown(want))
	}
	plain(t, tree, told)
}

// plain holds what Simple told of a tree: shaped, without counted repeats, and made simple as it is.
func plain(t *testing.T, tree, told api.Tree) {
	t.Helper()
	if !trees.Shaped(told) {
		t.Errorf("Simple of %.400s: %.400s, not shaped", Shown(tree), Shown(told))
	}
	if repeats(told) {
		t.Errorf("Simple of %.400s: %.400s, with a counted repeat", Shown(tree), Shown(told))
	}
	if trees.Right(told) && !Same(simplify.Simple(told), told) {
		t.Errorf("Simple of %.400s: %.400s, and of that %.400s", Shown(tree), Shown(told), Shown(simplify.Simple(told)))
	}
}

func repeats(t api.Tree) bool {
	return t.Op == api.OpRepeat || slices.ContainsFunc(t.Kids, repeats)
}

// refuses holds Simple of a tree that is not right.
func refuses(t *testing.T, tree api.Tree) {
	t.Helper()
	if trees.Right(tree) {
		t.Errorf("%.400s: right", Shown(tree))
	}
	if told := simplify.Simple(tree); !Same(told, api.Tree{}) {
		t.Errorf("Simple of %.400s: %.400s, not a zero tree", Shown(tree), Shown(told))
	}
}
