package syntax

import (
	"martello/api"
	"martello/classes"
	"martello/tables"
)

// flags are those that stand at a place of a pattern. They are embedded in what reads it: what a rune means there hangs on them.
type flags struct{ sum api.Flag }

func (f flags) has(one api.Flag) bool { return f.sum&one != 0 }

// meant is the atom of a rune that stands without a backslash.
func (f flags) meant(c rune) api.Tree {
	switch c {
	case '.':
		return ofSet(classes.Dot(f.has(api.FlagDot)))
	case '^':
		return f.edge(api.AtBegin, api.AtBeginLine)
	case '$':
		return f.edge(api.AtEnd, api.AtEndLine)
	}
	return f.itself(c)
}

// edge is an atom that fits at the text's edge, or at a line's.
func (f flags) edge(text, line api.At) api.Tree {
	if f.has(api.FlagMulti) {
		return api.Tree{Op: api.OpAt, At: line}
	}
	return api.Tree{Op: api.OpAt, At: text}
}

// itself is the atom of a rune that means no more than itself, and those that are alike with it.
func (f flags) itself(c rune) api.Tree {
	if f.has(api.FlagFold) && len(tables.Orbit(c)) > 1 {
		return ofSet(tables.Fold([]api.Range{{Lo: c, Hi: c}}))
	}
	return api.Tree{Op: api.OpRune, Rune: c}
}

// text are the atoms of all runes of a text.
func (f flags) text(s string) []api.Tree {
	var atoms []api.Tree
	for _, c := range s {
		atoms = append(atoms, f.itself(c))
	}
	return atoms
}

// named is the atom of a set that an escape names.
func (f flags) named(set []api.Range) api.Tree {
	if f.has(api.FlagFold) {
		set = tables.Fold(set)
	}
	return ofSet(set)
}

// ofSet is the atom of a set; of one without runes what fits nothing, for a tree has no such set.
func ofSet(set []api.Range) api.Tree {
	if len(set) == 0 {
		return api.Tree{Op: api.OpNone}
	}
	return api.Tree{Op: api.OpSet, Set: set}
}

// joined is a tree of several; of one it, of none what fits the empty text.
func joined(op api.Op, all ...api.Tree) api.Tree {
	switch len(all) {
	case 0:
		return api.Tree{Op: api.OpEmpty}
	case 1:
		return all[0]
	}
	return api.Tree{Op: op, Kids: all}
}
