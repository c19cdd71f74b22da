package simplify

import (
	"slices"

	"martello/api"
)

// anew is a tree with lists of its own, and in the place of each Kid what is made of it.
func anew(t api.Tree, of func(api.Tree) api.Tree) api.Tree {
	t.Set = slices.Clone(t.Set)
	t.Kids = each(t.Kids, of)
	return t
}

// each is a new list of what is made of each item.
func each[Item any](list []Item, of func(Item) Item) []Item {
	var made []Item
	for _, item := range list {
		made = append(made, of(item))
	}
	return made
}

// those is a new list of the items that are so.
func those[Item any](list []Item, so func(Item) bool) []Item {
	var kept []Item
	for _, item := range list {
		if so(item) {
			kept = append(kept, item)
		}
	}
	return kept
}
