package printer_test

import (
	"fmt"
	"slices"
	"strconv"
	"strings"
	"testing"

	"martello/api"
	"martello/printer"
	"martello/trees"
)

// The trees of each Op.

func none() api.Tree                      { return api.Tree{Op: api.OpNone} }
func empty() api.Tree                     { return api.Tree{Op: api.OpEmpty} }
func letter(c rune) api.Tree              { return api.Tree{Op: api.OpRune, Rune: c} }
func set(ends ...rune) api.Tree           { return api.Tree{Op: api.OpSet, Set: ranges(ends...)} }
func at(a api.At) api.Tree                { return api.Tree{Op: api.OpAt, At: a} }
func star(kid api.Tree) api.Tree          { return of(api.OpStar, kid) }
func plus(kid api.Tree) api.Tree          { return of(api.OpPlus, kid) }
func quest(kid api.Tree) api.Tree         { return of(api.OpQuest, kid) }
func cat(kids ...api.Tree) api.Tree       { return of(api.OpCat, kids...) }
func alt(kids ...api.Tree) api.Tree       { return of(api.OpAlt, kids...) }
func of(o api.Op, k ...api.Tree) api.Tree { return api.Tree{Op: o, Kids: k} }

func grp(n int, name string, kid api.Tree) api.Tree {
	return api.Tree{Op: api.OpCap, Cap: n, Name: name, Kids: []api.Tree{kid}}
}

func repeat(least, most int, kid api.Tree) api.Tree {
	return api.Tree{Op: api.OpRepeat, Min: least, Max: most, Kids: []api.Tree{kid}}
}

func lazy(t api.Tree) api.Tree {
	t.Lazy = true
	return t
}

// ranges are a list of them, by both ends each.
func ranges(ends ...rune) []api.Range {
	var l []api.Range
	for i := 0; i+1 < len(ends); i += 2 {
		l = append(l, api.Range{Lo: ends[i], Hi: ends[i+1]})
	}
	return l
}

// nested is a tree, so often put in another one.
func nested(n int, t api.Tree, in func(api.Tree) api.Tree) api.Tree {
	for range n {
		t = in(t)
	}
	return t
}

// same: are two trees the same? A list that is nil, and an empty one, are.
func same(a, b api.Tree) bool {
	return a.Op == b.Op && a.Rune == b.Rune && slices.Equal(a.Set, b.Set) && a.At == b.At && a.Cap == b.Cap && a.Name == b.Name && a.Min == b.Min && a.Max == b.Max && a.Lazy == b.Lazy && slices.EqualFunc(a.Kids, b.Kids, same)
}

// numbered is a copy of a tree, right if its groups are numbered and named as they begin: those that have a name by how many have one.
func numbered(t api.Tree) api.Tree {
	groups, names := 0, 0
	var copied func(api.Tree) api.Tree
	copied = func(t api.Tree) api.Tree {
		if t.Op == api.OpCap {
			groups++
			t.Cap = groups
			if t.Name != "" {
				names++
				t.Name = name(names)
			}
		}
		kids := []api.Tree{}
		for _, kid := range t.Kids {
			kids = append(kids, copied(kid))
		}
		t.Kids = kids
		return t
	}
	return copied(t)
}

// named is a text with the names of groups in the places of @, as they begin.
func named(text string) string {
	pieces := strings.Split(text, "@")
	all := pieces[0]
	for i, piece := range pieces[1:] {
		all += name(i+1) + piece
	}
	return all
}

func name(n int) string { return "n" + strconv.Itoa(n) }

// prints holds Print of a tree against its text.
func prints(t *testing.T, tree api.Tree, want string) {
	t.Helper()
	if text, e := printer.Print(tree); text != want || e != api.OK {
		t.Errorf("Print of %.400s: %.400q, %d; not %.400q", fmt.Sprint(tree), text, e, want)
	}
}

// refuses holds Print of a tree that is not right.
func refuses(t *testing.T, tree api.Tree) {
	t.Helper()
	if trees.Right(tree) {
		t.Errorf("%.400s: right", fmt.Sprint(tree))
	}
	if text, e := printer.Print(tree); text != "" || e != api.ErrTreeForm {
		t.Errorf("Print of %.400s: %.400q, %d; not the error 51", fmt.Sprint(tree), text, e)
	}
}
