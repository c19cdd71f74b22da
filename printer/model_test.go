package printer_test

import (
	"fmt"
	"strings"
	"testing"

	"martello/api"
	. "martello/samples"
)

// written is a tree, put together with its text from below: the text is never told by going through a tree. Groups have no numbers yet, and a name is @.
type written struct {
	tree api.Tree
	text string
	hold hold
}

// hold is how firmly a text holds together: between which others it stands as it is.
type hold int

const (
	firm  hold = iota // may be repeated as it is
	times             // is a repeat: may stand in an OpCat as it is
	chain             // is several, one behind the other: so may that
	loose             // are several, one or the other: may stand in an OpAlt, a group as it is
)

// in is its text in what takes only texts that hold so firmly.
func (w written) in(most hold) string {
	if w.hold > most {
		return "(?:" + w.text + ")"
	}
	return w.text
}

func wGroup(name string, kid written) written {
	begin := "("
	if name != "" {
		begin = "(?P<@>"
	}
	return written{Group(0, name, kid.tree), begin + kid.text + ")", firm}
}

// wTimes is a repeat: a tree of no Kid yet, and its sign.
func wTimes(tree api.Tree, sign string, kid written) written {
	tree.Kids = []api.Tree{kid.tree}
	if tree.Lazy {
		sign += "?"
	}
	return written{tree, kid.in(firm) + sign, times}
}

func wCat(kids ...written) written {
	tree, text := Cat(), ""
	for _, kid := range kids {
		tree.Kids = append(tree.Kids, kid.tree)
		text += kid.in(chain)
	}
	switch len(kids) {
	case 0:
		return written{tree, "(?:)", firm}
	case 1:
		return written{tree, kids[0].text, kids[0].hold}
	}
	return written{tree, text, chain}
}

func wAlt(kids ...written) written {
	tree := Alt()
	var texts []string
	for _, kid := range kids {
		tree.Kids = append(tree.Kids, kid.tree)
		texts = append(texts, kid.text)
	}
	if len(kids) == 1 {
		return written{tree, kids[0].text, kids[0].hold}
	}
	return written{tree, strings.Join(texts, "|"), loose}
}

// wRepeats are all repeats, lazy and not, with counts of each kind.
func wRepeats() []func(written) written {
	var all []func(written) written
	for _, x := range []struct {
		tree api.Tree
		sign string
	}{
		{Of(api.OpStar), "*"}, {Of(api.OpPlus), "+"}, {Of(api.OpQuest), "?"}, {api.Tree{Op: api.OpRepeat, Min: 2, Max: 2}, "{2}"}, {api.Tree{Op: api.OpRepeat, Min: 1, Max: -1}, "{1,}"}, {api.Tree{Op: api.OpRepeat, Max: 3}, "{0,3}"}, {api.Tree{Op: api.OpRepeat}, "{0}"},
	} {
		all = append(all, func(kid written) written { return wTimes(x.tree, x.sign, kid) }, func(kid written) written { return wTimes(Lazy(x.tree), x.sign, kid) })
	}
	return all
}

// wOuters are all trees that stand around one other, alone or with others beside it.
func wOuters() []func(written) written {
	x, y := written{Letter('x'), "x", firm}, written{Star(Letter('y')), "y*", times}
	return append(wRepeats(),
		func(kid written) written { return wGroup("", kid) },
		func(kid written) written { return wGroup("name", kid) },
		func(kid written) written { return wCat(kid) },
		func(kid written) written { return wCat(kid, x) },
		func(kid written) written { return wCat(y, kid) },
		func(kid written) written { return wCat(x, kid, y) },
		func(kid written) written { return wCat(kid, kid) },
		func(kid written) written { return wAlt(kid) },
		func(kid written) written { return wAlt(kid, y) },
		func(kid written) written { return wAlt(x, kid) },
		func(kid written) written { return wAlt(y, kid, x) },
		func(kid written) written { return wAlt(kid, kid) },
	)
}

// wLeaves are trees of each Op without Kids.
func wLeaves() []written {
	return []written{
		{None(), `[^\x{0}-\x{10ffff}]`, firm}, {Empty(), `(?:)`, firm}, {Cat(), `(?:)`, firm}, {Letter('a'), `a`, firm}, {Letter('|'), `\|`, firm}, {Letter(0xe9), `\x{e9}`, firm}, {Set('a', 'a'), `[\x{61}]`, firm}, {Set('0', '9', 'a', 'a'), `[\x{30}-\x{39}\x{61}]`, firm},
		{At(api.AtBegin), `\A`, firm}, {At(api.AtEnd), `\z`, firm}, {At(api.AtBeginLine), `(?m:^)`, firm}, {At(api.AtEndLine), `(?m:$)`, firm}, {At(api.AtWord), `\b`, firm}, {At(api.AtNoWord), `\B`, firm},
	}
}

// wTrees are these, and all that stand around one of them, so often, and two of them.
func wTrees(deep int, leaves ...written) []written {
	all := leaves
	for range deep {
		next := append([]written{wCat()}, leaves...)
		for _, kid := range all {
			for _, outer := range wOuters() {
				next = append(next, outer(kid))
			}
			for _, more := range leaves {
				next = append(next, wCat(kid, more), wCat(more, kid), wAlt(kid, more), wAlt(more, kid))
			}
		}
		all = next
	}
	return all
}

// rewritten is a tree whose groups have their numbers and names, put together anew from its leaves.
func rewritten(t api.Tree) written {
	var kids []written
	for _, kid := range t.Kids {
		kids = append(kids, rewritten(kid))
	}
	w := written{t, "", firm}
	switch t.Op {
	case api.OpNone:
		w.text = `[^\x{0}-\x{10ffff}]`
	case api.OpEmpty:
		w.text = `(?:)`
	case api.OpRune:
		w.text = runeText(t.Rune)
	case api.OpSet:
		w.text = setText(t.Set)
	case api.OpAt:
		w.text = map[api.At]string{1: `\A`, 2: `\z`, 4: `(?m:^)`, 8: `(?m:$)`, 16: `\b`, 32: `\B`}[t.At]
	case api.OpCap:
		w = wGroup(t.Name, kids[0])
		w.text = strings.Replace(w.text, "(?P<@>", "(?P<"+t.Name+">", 1)
	case api.OpCat:
		w = wCat(kids...)
	case api.OpAlt:
		w = wAlt(kids...)
	default:
		w = wTimes(t, timesText(t), kids[0])
	}
	return w
}

func timesText(t api.Tree) string {
	switch {
	case t.Op != api.OpRepeat:
		return map[api.Op]string{api.OpStar: "*", api.OpPlus: "+", api.OpQuest: "?"}[t.Op]
	case t.Max == -1:
		return fmt.Sprintf("{%d,}", t.Min)
	case t.Max == t.Min:
		return fmt.Sprintf("{%d}", t.Min)
	}
	return fmt.Sprintf("{%d,%d}", t.Min, t.Max)
}

// runeText is looked up: of what the chapter says of runes below 128, line by line.
func runeText(c rune) string {
	if c < 128 {
		return below128()[c]
	}
	return fmt.Sprintf(`\x{%x}`, c)
}

func setText(set []api.Range) string {
	text := ""
	for _, r := range set {
		text += fmt.Sprintf(`\x{%x}`, r.Lo)
		if r.Lo < r.Hi {
			text += fmt.Sprintf(`-\x{%x}`, r.Hi)
		}
	}
	return "[" + text + "]"
}

// TestModel: the model, against texts that are written out.
func TestModel(t *testing.T) {
	for _, x := range []struct {
		t    api.Tree
		want string
	}{
		{Cat(Letter('a'), Alt(Letter('b'), Letter('.')), Cat(Letter('\n'), Letter(' '))), `a(?:b|\.)\x{a} `},
		{Star(Group(1, "x", Lazy(Repeat(2, -1, Cat(At(4), None()))))), `(?P<x>(?:(?m:^)[^\x{0}-\x{10ffff}]){2,}?)*`},
		{Alt(Set(0, 0x10ffff), Set('a', 'a'), Set(1, 2, 4, 4, 6, 7)), `[\x{0}-\x{10ffff}]|[\x{61}]|[\x{1}-\x{2}\x{4}\x{6}-\x{7}]`},
		{Plus(Cat(Alt(Alt(Empty(), Cat()), Letter('`')))), "(?:(?:)|(?:)|`)+"},
		{Quest(Repeat(0, 0, Repeat(1, 2, Cat(Letter('a'))))), `(?:(?:a{1,2}){0})?`},
	} {
		if w := rewritten(x.t); w.text != x.want {
			t.Errorf("%v: %q; not %q", x.t, w.text, x.want)
		}
	}
}

// TestSmallTrees: P9.1 and P9.2 of all small trees.
func TestSmallTrees(t *testing.T) {
	a, s := written{Letter('a'), "a", firm}, written{Set('b', 'c'), `[\x{62}-\x{63}]`, firm}
	all := append(wTrees(2, wLeaves()...), wTrees(3, a)...)
	for _, w := range append(all, wTrees(2, a, s, wAlt(a, s), wCat(a, s))...) {
		tree, text := Numbered(w.tree), named(w.text)
		prints(t, tree, text)
		again(t, tree)
		if t.Failed() {
			return
		}
	}
}

// TestPairs: two trees beside each other, of each two of all that have one Kid, and what stands around both.
func TestPairs(t *testing.T) {
	all := wTrees(1, wLeaves()[:5]...)
	for i, w := range all {
		for j, v := range all {
			outer := wOuters()[(i+j)%len(wOuters())]
			for _, both := range []written{wCat(w, v), wAlt(w, v), outer(wCat(w, v)), outer(wAlt(v, w))} {
				tree := Numbered(both.tree)
				prints(t, tree, named(both.text))
				if (i+j)%5 == 0 {
					again(t, tree)
				}
			}
			if t.Failed() {
				return
			}
		}
	}
}
