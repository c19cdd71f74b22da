package brackets

import (
	"strings"

	"martello/api"
	"martello/classes"
	"martello/scan"
)

// nameLetters are those that may stand between the colons of a name.
const nameLetters = "abcdefghijklmnopqrstuvwxyz^"

// reader reads the items of a class, in one flavour.
type reader struct {
	text
	perl  bool
	spans []api.Range // of all items that are runes, or go from one to another
}

// takeItems takes all items, one at least, and the ] behind them. What stands first is an item, even a ].
func (r *reader) takeItems() [][]api.Range {
	items := [][]api.Range{r.takeItem()}
	for !r.take("]") {
		items = append(items, r.takeItem())
	}
	return items
}

// takeItem takes an item, and tells its ranges. What begins no range is its own end, too.
func (r *reader) takeItem() []api.Range {
	begin := r.next
	if set, is := r.takeNamed(); is {
		return set
	}
	first := r.takeOne()
	if first.Kind == api.EscSet {
		return first.Set
	}
	last := first
	if first.Kind == api.EscRune && r.takeDash() {
		last = r.takeOne()
	}
	if last.Kind != api.EscRune || last.Rune < first.Rune {
		r.refuse(begin)
	}
	return r.keep(api.Range{Lo: first.Rune, Hi: last.Rune})
}

// takeNamed takes a name between colons, if one stands next, and tells its set. Where there is no :] behind the letters nothing is taken: the [ is a rune as others are.
func (r *reader) takeNamed() ([]api.Range, bool) {
	ahead := r.text
	if r.take("[:") {
		name := r.takeSome(nameLetters)
		if r.take(":]") {
			set, is := classes.Posix(name)
			if !is {
				r.refuse(ahead.next)
			}
			return set, true
		}
	}
	r.text = ahead
	return nil, false
}

// takeOne takes an escape, or a rune, which is told as an escape of that rune is.
func (r *reader) takeOne() api.Esc {
	if !strings.HasPrefix(r.left(), `\`) {
		return api.Esc{Kind: api.EscRune, Rune: r.takeRune()}
	}
	esc, behind, wrong := scan.Escape(r.all, r.next, r.perl)
	if wrong.E != api.OK {
		panic(wrong)
	}
	r.next = behind
	return esc
}

// takeDash takes a - that leads on to the end of a range: something stands behind it, and no ].
func (r *reader) takeDash() bool {
	behind, is := strings.CutPrefix(r.left(), "-")
	if !is || behind == "" || behind[0] == ']' {
		return false
	}
	return r.take("-")
}

// keep keeps a range with those of other items, and tells it as a list of its own, which ends where its room does: one that grows takes new room, not the next item's.
func (r *reader) keep(span api.Range) []api.Range {
	r.spans = append(r.spans, span)
	end := len(r.spans)
	return r.spans[end-1 : end : end]
}

// refuse tells that an item, from where it begins to what was taken last, is none.
func (r *reader) refuse(begin int) {
	panic(api.Wrong{E: api.ErrClassRange, From: begin, To: r.next})
}
