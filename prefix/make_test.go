package prefix_test

import (
	"fmt"
	"slices"
	"testing"

	"martello/api"
	"martello/inputs"
	"martello/prefix"
	. "martello/samples"
)

// The calls of the chapter, by their signatures.
var (
	_ func(api.Tree) ([]rune, bool)        = prefix.Prefix
	_ func(*inputs.Input, []rune, int) int = prefix.Index
)

// brief is a tree as a text; of a great one its Op, and how many Kids it has.
func brief(tree api.Tree) string {
	if len(tree.Kids) > 100 {
		return fmt.Sprintf("Op %d of %d", tree.Op, len(tree.Kids))
	}
	return fmt.Sprintf("%.400s", Shown(tree))
}

// begins holds Prefix of a tree against its runes, and whether it is exact.
func begins(t *testing.T, tree api.Tree, want string, exact bool) {
	t.Helper()
	has(t, tree, []rune(want), exact)
}

// has is begins, by runes that have no UTF-8, too.
func has(t *testing.T, tree api.Tree, want []rune, exact bool) {
	t.Helper()
	if l, is := prefix.Prefix(tree); !slices.Equal(l, want) || is != exact {
		t.Errorf("Prefix of %s: %.400q, %t; not %.400q, %t", brief(tree), l, is, want, exact)
	}
}

// stands holds Index against a place.
func stands(t *testing.T, in *inputs.Input, l []rune, from, want int) {
	t.Helper()
	if at := prefix.Index(in, l, from); at != want {
		text := "nil"
		if in != nil {
			text = fmt.Sprintf("%.100q", in.Bytes(0, in.Len()))
		}
		t.Fatalf("Index in %s of %.100q from %d: %d; not %d", text, l, from, at, want)
	}
}
