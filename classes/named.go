package classes

import (
	"strings"

	"martello/api"
	"martello/sets"
	"martello/tables"
)

// teller tells the set of a name, and whether there is such a name.
type teller func(name string) ([]api.Range, bool)

// turning is a teller, too, of names with a ^ ahead: of these, all that the set of the rest does not have. Only one ^ is taken off, so a second one is for tell to refuse.
func turning(tell teller) teller {
	return func(name string) ([]api.Range, bool) {
		rest, turned := strings.CutPrefix(name, "^")
		set, ok := tell(rest)
		if ok && turned {
			set = sets.Not(set)
		}
		return set, ok
	}
}

// property tells the set of a property's name.
func property(name string) ([]api.Range, bool) {
	if name == "Any" {
		return whole(), true
	}
	return tables.Named(name)
}

// posix tells the set of a name between colons.
func posix(name string) ([]api.Range, bool) {
	set := posixSet(name)
	return set, set != nil
}

// posixSet is the set of a name between colons; nil, if there is no such name, for no name's set is empty.
func posixSet(name string) []api.Range {
	switch name {
	case "alnum":
		return runs('0', '9', 'A', 'Z', 'a', 'z')
	case "alpha":
		return runs('A', 'Z', 'a', 'z')
	case "ascii":
		return runs(0, 0x7F)
	case "blank":
		return runs('\t', '\t', ' ', ' ')
	case "cntrl":
		return runs(0, 0x1F, 0x7F, 0x7F)
	case "digit":
		return runs('0', '9')
	case "graph":
		return runs('!', '~')
	case "lower":
		return runs('a', 'z')
	case "print":
		return runs(' ', '~')
	case "punct":
		return runs('!', '/', ':', '@', '[', '`', '{', '~')
	case "space":
		return runs('\t', '\r', ' ', ' ')
	case "upper":
		return runs('A', 'Z')
	case "word":
		return runs('0', '9', 'A', 'Z', '_', '_', 'a', 'z')
	case "xdigit":
		return runs('0', '9', 'A', 'F', 'a', 'f')
	}
	return nil
}

// perlSet is the set of a small letter behind a backslash: d, s, or else w.
func perlSet(c byte) []api.Range {
	switch c {
	case 'd':
		return runs('0', '9')
	case 's':
		return runs('\t', '\n', '\f', '\r', ' ', ' ') // no vertical tab, which space between colons has
	}
	return runs('0', '9', 'A', 'Z', '_', '_', 'a', 'z')
}

// whole are all runes.
func whole() []api.Range { return runs(0, api.MaxRune) }

// runs are ranges, written by the first and the last rune of each.
func runs(ends ...rune) []api.Range {
	l := make([]api.Range, 0, len(ends)/2)
	for i := 0; i < len(ends); i += 2 {
		l = append(l, api.Range{Lo: ends[i], Hi: ends[i+1]})
	}
	return l
}
