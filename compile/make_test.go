package compile_test

import (
	"fmt"
	"strconv"
	"strings"
	"testing"

	"martello/api"
	"martello/compile"
	"martello/progs"
	. "martello/samples"
	"martello/syntax"
	"martello/trees"
)

// The call of the chapter, by its signature.
var _ func(api.Tree, int) (api.Prog, api.Errno) = compile.Compile

// read is the tree of a pattern.
func read(t *testing.T, pattern string, f api.Flag) api.Tree {
	t.Helper()
	tree, wrong := syntax.Parse(pattern, f)
	if wrong.E != api.OK {
		t.Fatalf("Parse of %q, %d: %+v", pattern, f, wrong)
	}
	return tree
}

// brief is a tree as a text; of a great one its beginning.
func brief(tree api.Tree) string { return fmt.Sprintf("%.400s", Shown(cut(tree, 10))) }

// cut is a tree with few of its Kids, and few deep.
func cut(tree api.Tree, deep int) api.Tree {
	kids := tree.Kids[:min(len(tree.Kids), deep)]
	tree.Kids = nil
	for _, kid := range kids {
		tree.Kids = append(tree.Kids, cut(kid, deep-1))
	}
	return tree
}

// shown is a program as the chapter's examples write it: its instructions by their places, and where it begins. What it does not show is held by progs.Check, but for Caps.
func shown(p api.Prog) string {
	var all []string
	for pc, i := range p.Insts {
		all = append(all, strconv.Itoa(pc)+" "+shownInst(i))
	}
	return strings.Join(all, ", ") + "; " + strconv.Itoa(p.Start)
}

func shownInst(i api.Inst) string {
	switch i.Op {
	case api.InstMatch:
		return "match"
	case api.InstFail:
		return "fail"
	case api.InstSet:
		return "set " + shownSet(i.Set) + " " + strconv.Itoa(i.Out)
	case api.InstAlt:
		return fmt.Sprintf("alt %d %d", i.Out, i.Arg)
	case api.InstCap:
		return fmt.Sprintf("cap %d to %d", i.Arg, i.Out)
	case api.InstAt:
		return fmt.Sprintf("at %d %d", i.At, i.Out)
	}
	return fmt.Sprint(i)
}

// shownSet are ranges as a class has them, those of letters by these.
func shownSet(set []api.Range) string {
	text := ""
	for _, r := range set {
		text += shownRune(r.Lo)
		if r.Lo != r.Hi {
			text += "-" + shownRune(r.Hi)
		}
	}
	return text
}

func shownRune(c rune) string {
	if 'a' <= c && c <= 'z' {
		return string(c)
	}
	return fmt.Sprintf("<%x>", c)
}

// told is the program of a tree that has one, held against what is promised of all: it is right, and has as many places as are asked for.
func told(t *testing.T, tree api.Tree, groups int) api.Prog {
	t.Helper()
	p, e := compile.Compile(tree, groups)
	if e != api.OK {
		t.Fatalf("Compile of %s, %d groups: %v", brief(tree), groups, e)
	}
	if progs.Check(p) != api.OK || p.Caps != 2*groups+2 {
		t.Fatalf("Compile of %s, %d groups: %.400s, Caps %d: Check %d", brief(tree), groups, shown(p), p.Caps, progs.Check(p))
	}
	return p
}

// compiles holds Compile of a tree against a program as it is shown, but for the match that it begins with.
func compiles(t *testing.T, tree api.Tree, groups int, want string) {
	t.Helper()
	all := "0 match, " + want
	if strings.HasPrefix(want, ";") {
		all = "0 match" + want
	}
	if have := shown(told(t, tree, groups)); have != all {
		t.Errorf("Compile of %s, %d groups: %.400s; not %.400s", brief(tree), groups, have, all)
	}
}

// refuses holds Compile of what has no program.
func refuses(t *testing.T, tree api.Tree, groups int, want api.Errno) {
	t.Helper()
	p, e := compile.Compile(tree, groups)
	if e != want || len(p.Insts) > 0 || p.Start != 0 || p.Caps != 0 {
		t.Errorf("Compile of %s, %d groups: %.400s, Caps %d, %v; not %v", brief(tree), groups, shown(p), p.Caps, e, want)
	}
}

// counted: is a counted repeat in it?
func counted(tree api.Tree) bool {
	if tree.Op == api.OpRepeat {
		return true
	}
	for _, kid := range tree.Kids {
		if counted(kid) {
			return true
		}
	}
	return false
}

// groupsOf is how many groups a right tree has.
func groupsOf(tree api.Tree) int { return len(trees.Caps(tree)) - 1 }
