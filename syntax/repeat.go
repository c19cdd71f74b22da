package syntax

import (
	"martello/api"
	"martello/scan"
)

// takeOnlyRepeat takes a repeat, if one stands next, behind which no other one stands; its Kid is yet to be put in. There must be an atom that it repeats.
func (r *reader) takeOnlyRepeat(atom bool) (api.Tree, bool) {
	from := r.next
	first, is := r.takeRepeat(atom)
	if !is {
		return api.Tree{}, false
	}
	if _, more := r.takeRepeat(atom); more {
		r.refuse(api.ErrNested, from)
	}
	return first, true
}

// takeRepeat takes a sign or a count, and, where the flavour has it, the ? that makes it lazy.
func (r *reader) takeRepeat(atom bool) (api.Tree, bool) {
	from := r.next
	again, is := r.takeTimes()
	switch {
	case !is:
		return api.Tree{}, false
	case !atom:
		r.refuse(api.ErrMissing, from)
	case max(again.Min, again.Max) > api.MaxRepeat || again.Max >= 0 && again.Max < again.Min:
		r.refuse(api.ErrRepeat, from)
	}
	lazy := r.has(api.FlagPerl) && r.take("?")
	again.Lazy = lazy != r.has(api.FlagSwap)
	return again, true
}

// takeTimes takes a sign or a count alone, and tells what it makes of an atom.
func (r *reader) takeTimes() (api.Tree, bool) {
	switch {
	case r.take("*"):
		return api.Tree{Op: api.OpStar}, true
	case r.take("+"):
		return api.Tree{Op: api.OpPlus}, true
	case r.take("?"):
		return api.Tree{Op: api.OpQuest}, true
	}
	least, most, behind, is := scan.Count(r.pattern, r.next)
	if !is {
		return api.Tree{}, false
	}
	r.next = behind
	return api.Tree{Op: api.OpRepeat, Min: least, Max: most}, true
}
