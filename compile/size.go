package compile

import "martello/api"

// size is how many instructions a tree's code has.
func (b *builder) size(t *api.Tree) int {
	n := b.own(t)
	for i := range t.Kids {
		n += b.size(&t.Kids[i])
	}
	return n
}

// own is how many of them are no Kid's.
func (b *builder) own(t *api.Tree) int {
	switch t.Op {
	case api.OpEmpty, api.OpCat:
		return 0
	case api.OpCap:
		if b.asked(t) {
			return 2
		}
		return 0
	case api.OpAlt:
		return len(t.Kids) - 1
	}
	return 1
}
