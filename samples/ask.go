package samples

import (
	"slices"
	"strconv"

	"martello/api"
)

// Same: are two trees the same? A list that is nil, and an empty one, are.
func Same(a, b api.Tree) bool {
	return a.Op == b.Op && a.Rune == b.Rune && slices.Equal(a.Set, b.Set) && a.At == b.At && a.Cap == b.Cap && a.Name == b.Name && a.Min == b.Min && a.Max == b.Max && a.Lazy == b.Lazy && slices.EqualFunc(a.Kids, b.Kids, Same)
}

// Shown is a tree as a text, by which it is known.
func Shown(t api.Tree) string {
	head := ""
	switch t.Op {
	case api.OpNone:
		return "none"
	case api.OpEmpty:
		return "empty"
	case api.OpRune:
		return strconv.Itoa(int(t.Rune))
	case api.OpSet:
		return shownSet(t.Set)
	case api.OpAt:
		return "at" + strconv.Itoa(int(t.At))
	case api.OpCap:
		head = strconv.Itoa(t.Cap) + ":" + t.Name
	case api.OpStar:
		head = "*"
	case api.OpPlus:
		head = "+"
	case api.OpQuest:
		head = "?"
	case api.OpRepeat:
		head = "{" + strconv.Itoa(t.Min) + "," + strconv.Itoa(t.Max) + "}"
	case api.OpCat:
		head = "cat"
	case api.OpAlt:
		head = "alt"
	default:
		head = "op" + strconv.Itoa(int(t.Op))
	}
	if t.Lazy {
		head += "?"
	}
	for _, kid := range t.Kids {
		head += " " + Shown(kid)
	}
	return "(" + head + ")"
}

func shownSet(set []api.Range) string {
	all := "["
	for _, r := range set {
		all += strconv.Itoa(int(r.Lo)) + "-" + strconv.Itoa(int(r.Hi)) + ";"
	}
	return all + "]"
}

// Roomy is a copy of a tree whose lists have spare room, with something in it.
func Roomy(t api.Tree) api.Tree {
	t.Set = append(slices.Clone(t.Set), Ranges(7, 7, 9, 9)...)[:len(t.Set)]
	kids := append(slices.Clone(t.Kids), Letter('!'), Star(Letter('?')))
	for i, kid := range t.Kids {
		kids[i] = Roomy(kid)
	}
	t.Kids = kids[:len(t.Kids)]
	return t
}

// Whole is a copy of a tree with what its lists' spare room has as well.
func Whole(t api.Tree) api.Tree {
	t.Set = slices.Clone(t.Set[:cap(t.Set)])
	t.Kids = slices.Clone(t.Kids[:cap(t.Kids)])
	for i, kid := range t.Kids {
		t.Kids[i] = Whole(kid)
	}
	return t
}

// Spoil writes over all lists of a tree, and their spare room.
func Spoil(t api.Tree) {
	for _, kid := range t.Kids {
		Spoil(kid)
	}
	for i := range t.Set[:cap(t.Set)] {
		t.Set[:cap(t.Set)][i] = api.Range{Lo: -7, Hi: -9}
	}
	for i := range t.Kids[:cap(t.Kids)] {
		t.Kids[:cap(t.Kids)][i] = api.Tree{Op: 99}
	}
}
