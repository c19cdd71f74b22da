package compile

import (
	"slices"

	"martello/api"
)

// builder puts code behind the instructions of a program. What code leads to stands there ahead of it, so that its place is known; but for a loop, which leads to its Kid and is patched behind it.
type builder struct{ api.Prog }

// put is where an instruction stands that is put behind all.
func (b *builder) put(i api.Inst) int {
	b.Insts = append(b.Insts, i)
	return len(b.Insts) - 1
}

// code puts a tree's code that leads to k, and tells its entry. Each Set is a copy, for trees may share theirs.
func (b *builder) code(t *api.Tree, k int) int {
	switch t.Op {
	case api.OpNone:
		return b.put(api.Inst{Op: api.InstFail})
	case api.OpRune:
		return b.put(api.Inst{Op: api.InstSet, Set: []api.Range{{Lo: t.Rune, Hi: t.Rune}}, Out: k})
	case api.OpSet:
		return b.put(api.Inst{Op: api.InstSet, Set: slices.Clone(t.Set), Out: k})
	case api.OpAt:
		return b.put(api.Inst{Op: api.InstAt, At: t.At, Out: k})
	case api.OpCap:
		return b.group(t, k)
	case api.OpStar, api.OpPlus:
		return b.loop(t, k)
	case api.OpQuest:
		kid := b.code(&t.Kids[0], k)
		may := b.put(api.Inst{Op: api.InstAlt})
		b.patch(may, kid, k, t.Lazy)
		return may
	case api.OpCat:
		return b.row(t.Kids, k)
	case api.OpAlt:
		return b.choice(t.Kids, k)
	}
	return k
}

// asked: has the program places for a group?
func (b *builder) asked(t *api.Tree) bool { return t.Cap < b.Caps/2 }

// group keeps where its Kid begins, and where it ends; one that is not asked for is its Kid.
func (b *builder) group(t *api.Tree, k int) int {
	if !b.asked(t) {
		return b.code(&t.Kids[0], k)
	}
	end := b.put(api.Inst{Op: api.InstCap, Arg: 2*t.Cap + 1, Out: k})
	kid := b.code(&t.Kids[0], end)
	return b.put(api.Inst{Op: api.InstCap, Arg: 2 * t.Cap, Out: kid})
}

// loop leads from its Kid back to the instruction that asks whether to go on, which stands ahead of the Kid.
func (b *builder) loop(t *api.Tree, k int) int {
	asks := b.put(api.Inst{Op: api.InstAlt})
	kid := b.code(&t.Kids[0], asks)
	b.patch(asks, kid, k, t.Lazy)
	if t.Op == api.OpPlus {
		return kid
	}
	return asks
}

// patch makes an InstAlt lead to more, and behind that to stop; lazy, the other way round.
func (b *builder) patch(pc, more, stop int, lazy bool) {
	if lazy {
		more, stop = stop, more
	}
	b.Insts[pc].Out, b.Insts[pc].Arg = more, stop
}

// row puts the last Kid first, as each leads to the one behind it.
func (b *builder) row(kids []api.Tree, k int) int {
	for i := range slices.Backward(kids) {
		k = b.code(&kids[i], k)
	}
	return k
}

// choice leads to its Kids, the first one first.
func (b *builder) choice(kids []api.Tree, k int) int {
	var entries []int
	for i := range kids {
		entries = append(entries, b.code(&kids[i], k))
	}
	last := len(entries) - 1
	entry := entries[last]
	for _, kid := range slices.Backward(entries[:last]) {
		entry = b.put(api.Inst{Op: api.InstAlt, Out: kid, Arg: entry})
	}
	return entry
}
