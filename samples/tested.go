package samples

import (
	"martello/api"
	"martello/compile"
	"martello/inputs"
	"martello/simplify"
	"martello/syntax"
	"martello/trees"
)

// Test is what ends a test that cannot go on, as those of package testing are, which the program does not import.
type Test interface {
	Helper()
	Fatalf(format string, about ...any)
}

// Kinds are all that an input may be made of.
func Kinds() []api.Kind { return []api.Kind{api.KindText, api.KindBytes, api.KindReader} }

// Made is the input of a text, of one of the kinds.
func Made(t Test, text string) *inputs.Input {
	t.Helper()
	kinds := Kinds()
	in, e := inputs.New(kinds[len(text)%len(kinds)], []byte(text))
	if e != api.OK {
		t.Fatalf("New of %.40q: %v", text, e)
	}
	return in
}

// Parsed is the tree of a pattern, in the flavour of FlagPerl.
func Parsed(t Test, pattern string) api.Tree {
	t.Helper()
	tree, wrong := syntax.Parse(pattern, api.FlagPerl)
	if wrong.E != api.OK {
		t.Fatalf("Parse of %q: %+v", pattern, wrong)
	}
	return tree
}

// Compiled is the program of a shaped tree, made plain if it is right, with places for so many groups.
func Compiled(t Test, tree api.Tree, groups int) api.Prog {
	t.Helper()
	if trees.Right(tree) {
		tree = simplify.Simple(tree)
	}
	p, e := compile.Compile(tree, groups)
	if e != api.OK {
		t.Fatalf("Compile of %.400s: %v", Shown(tree), e)
	}
	return p
}

// ProgOf is the program of a pattern, with all its groups.
func ProgOf(t Test, pattern string) api.Prog {
	t.Helper()
	tree := Parsed(t, pattern)
	return Compiled(t, tree, len(trees.Caps(tree))-1)
}
