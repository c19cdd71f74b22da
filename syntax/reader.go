package syntax

import (
	"slices"
	"strings"
	"unicode/utf8"

	"martello/api"
	"martello/brackets"
	"martello/scan"
	"martello/trees"
)

// reader reads a pattern, from the left. Its flags are those that stand where it is.
type reader struct {
	flags
	pattern string
	next    int      // the byte that is taken next
	names   []string // of all groups that have begun
}

// admit ends all, if these flags, or this pattern, are not to be read.
func (r *reader) admit() {
	switch {
	case r.sum < 0 || r.sum > api.FlagAll:
		panic(api.ErrArg)
	case len(r.pattern) > api.MaxPat:
		panic(api.ErrTooMany)
	case !utf8.ValidString(r.pattern):
		panic(api.ErrUTF8)
	}
}

// takeAll takes the whole pattern. Parts end ahead of a ) too, which here closes nothing.
func (r *reader) takeAll() api.Tree {
	if r.has(api.FlagLit) {
		return joined(api.OpCat, r.text(r.pattern)...)
	}
	all := r.takeParts()
	switch {
	case r.next < len(r.pattern):
		panic(api.ErrParen)
	case trees.Depth(all) > api.MaxDepth:
		panic(api.ErrDeep)
	case trees.Weight(all) > api.MaxWeight:
		panic(api.ErrLarge)
	}
	return all
}

// takeParts takes parts with | between, up to a ), or the end.
func (r *reader) takeParts() api.Tree {
	parts := []api.Tree{r.takePart()}
	for r.take("|") {
		parts = append(parts, r.takePart())
	}
	return joined(api.OpAlt, parts...)
}

// takePart takes atoms, and their repeats. A repeat is that of the last atom, also where flags, or a quoted text without runes, stand between.
func (r *reader) takePart() api.Tree {
	var atoms []api.Tree
	for !r.ends() {
		again, is := r.takeOnlyRepeat(len(atoms) > 0)
		if !is {
			atoms = append(atoms, r.takeAtoms()...)
			continue
		}
		last := &atoms[len(atoms)-1]
		again.Kids = []api.Tree{*last}
		*last = again
	}
	return joined(api.OpCat, atoms...)
}

// ends: does a part end here?
func (r *reader) ends() bool {
	return r.next == len(r.pattern) || r.pattern[r.next] == '|' || r.pattern[r.next] == ')'
}

// takeAtoms takes what stands next in a part, and is no repeat: an atom; or flags, which are none; or a quoted text, which may be several.
func (r *reader) takeAtoms() []api.Tree {
	switch r.pattern[r.next] {
	case '(':
		return r.takeParens()
	case '[':
		set, behind, wrong := brackets.Class(r.pattern, r.next, r.sum)
		r.pass(behind, wrong)
		return []api.Tree{ofSet(set)}
	case '\\':
		return r.takeEscape()
	}
	c, size := utf8.DecodeRuneInString(r.pattern[r.next:])
	r.next += size
	return []api.Tree{r.meant(c)}
}

// takeEscape takes a backslash, and what belongs to it.
func (r *reader) takeEscape() []api.Tree {
	esc, behind, wrong := scan.Escape(r.pattern, r.next, r.has(api.FlagPerl))
	r.pass(behind, wrong)
	switch esc.Kind {
	case api.EscQuote:
		return r.takeQuoted()
	case api.EscSet:
		return []api.Tree{r.named(esc.Set)}
	case api.EscAt:
		return []api.Tree{{Op: api.OpAt, At: esc.At}}
	}
	return []api.Tree{r.itself(esc.Rune)}
}

// takeQuoted takes all runes up to \E, and that; or up to the end.
func (r *reader) takeQuoted() []api.Tree {
	quoted, behind, _ := strings.Cut(r.pattern[r.next:], `\E`)
	r.next = len(r.pattern) - len(behind)
	return r.text(quoted)
}

// takeParens takes what begins with a (: a group, with a name or without; flags; or parts under flags.
func (r *reader) takeParens() []api.Tree {
	switch {
	case r.has(api.FlagPerl) && (r.stands("(?P<") || r.stands("(?<")):
		return []api.Tree{r.takeGroup(r.takeName())}
	case r.has(api.FlagPerl) && r.stands("(?"):
		sum, begins, behind, wrong := scan.Flags(r.pattern, r.next, r.sum)
		r.pass(behind, wrong)
		if !begins {
			r.sum = sum
			return nil
		}
		return []api.Tree{r.takeWithin(flags{sum})}
	}
	r.take("(")
	return []api.Tree{r.takeGroup("")}
}

// takeName takes how a named group begins, and tells its name; no group ahead may have it.
func (r *reader) takeName() string {
	name, behind, wrong := scan.Name(r.pattern, r.next)
	if wrong.E == api.OK && slices.Contains(r.names, name) {
		wrong = api.Wrong{E: api.ErrGroupName, From: r.next, To: behind}
	}
	r.pass(behind, wrong)
	return name
}

// takeGroup takes a group from behind how it begins. It has its number ahead of those that stand in it.
func (r *reader) takeGroup(name string) api.Tree {
	r.names = append(r.names, name)
	number := len(r.names)
	return api.Tree{Op: api.OpCap, Cap: number, Name: name, Kids: []api.Tree{r.takeWithin(r.flags)}}
}

// takeWithin takes parts that begin under these flags, and the ) behind them, where the flags are again what they were.
func (r *reader) takeWithin(f flags) api.Tree {
	outside := r.flags
	r.flags = f
	parts := r.takeParts()
	if !r.take(")") {
		panic(api.ErrParen)
	}
	r.flags = outside
	return parts
}

// stands: do just these bytes stand next?
func (r *reader) stands(part string) bool { return strings.HasPrefix(r.pattern[r.next:], part) }

// take takes just these bytes, and tells whether they stand next.
func (r *reader) take(part string) bool {
	is := r.stands(part)
	if is {
		r.next += len(part)
	}
	return is
}

// pass goes on behind what another layer has read here, or ends all, if that is wrong.
func (r *reader) pass(behind int, wrong api.Wrong) {
	if wrong.E != api.OK {
		panic(wrong)
	}
	r.next = behind
}

// refuse ends all: what is wrong are the bytes from there on up to where the reader is.
func (r *reader) refuse(e api.Errno, from int) {
	panic(api.Wrong{E: e, From: from, To: r.next})
}
