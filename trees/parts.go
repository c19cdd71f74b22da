package trees

import (
	"iter"

	"martello/api"
	"martello/sets"
)

// parts walks over a tree and all that stands in it, in the order in which they begin, and how deep each stands; the tree itself is the first one, at the depth 1.
func parts(t api.Tree) iter.Seq2[api.Tree, int] {
	return func(yield func(api.Tree, int) bool) { walk(t, 1, yield) }
}

// walk hands a tree and its parts on, and tells whether more are asked for.
func walk(t api.Tree, depth int, yield func(api.Tree, int) bool) bool {
	if !yield(t, depth) {
		return false
	}
	for _, kid := range t.Kids {
		if !walk(kid, depth+1, yield) {
			return false
		}
	}
	return true
}

// sound: is all right of a part that can be seen of it alone: its Op, how many Kids it has, its fields? Those that its Op has are blanked, for all others must be zero.
func sound(t api.Tree) bool {
	is, kids := false, len(t.Kids)
	switch t.Op {
	case api.OpNone, api.OpEmpty:
		is = kids == 0
	case api.OpRune:
		is = kids == 0 && t.Rune >= 0 && t.Rune <= api.MaxRune
		t.Rune = 0
	case api.OpSet:
		is = kids == 0 && len(t.Set) > 0 && sets.Right(t.Set)
		t.Set = nil
	case api.OpAt:
		is = kids == 0 && isAt(t.At)
		t.At = 0
	case api.OpCap:
		is = kids == 1 && t.Cap > 0 && (t.Name == "" || isName(t.Name))
		t.Cap, t.Name = 0, ""
	case api.OpStar, api.OpPlus, api.OpQuest:
		is = kids == 1
		t.Lazy = false
	case api.OpRepeat:
		is = kids == 1 && isCount(t.Min, t.Max)
		t.Min, t.Max, t.Lazy = 0, 0, false
	case api.OpCat:
		is = true
	case api.OpAlt:
		is = kids > 0
	}
	return is && blank(t)
}

// blank: are all fields zero, but for the Op and the Kids?
func blank(t api.Tree) bool {
	return t.Rune == 0 && len(t.Set) == 0 && t.At == 0 && t.Cap == 0 && t.Name == "" && t.Min == 0 && t.Max == 0 && !t.Lazy
}

// isAt: is it just one of what a place may be?
func isAt(at api.At) bool {
	switch at {
	case api.AtBegin, api.AtEnd, api.AtBeginLine, api.AtEndLine, api.AtWord, api.AtNoWord:
		return true
	}
	return false
}

// isCount: may something be repeated so often, from least to most, or, where most is -1, any number above?
func isCount(least, most int) bool {
	if least < 0 || least > api.MaxRepeat {
		return false
	}
	return most == -1 || most >= least && most <= api.MaxRepeat
}

// isName: may a group have this name?
func isName(s string) bool {
	if len(s) < 1 || len(s) > api.MaxName || isDigit(s[0]) {
		return false
	}
	for _, b := range []byte(s) {
		if !isDigit(b) && !isLetter(b) {
			return false
		}
	}
	return true
}

func isDigit(b byte) bool { return b >= '0' && b <= '9' }

// isLetter: is it a name's letter? The low line is.
func isLetter(b byte) bool { return b >= 'a' && b <= 'z' || b >= 'A' && b <= 'Z' || b == '_' }
