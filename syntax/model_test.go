package syntax_test

import (
	"slices"
	"strings"
	"testing"
	"unicode/utf8"

	"martello/api"
	"martello/brackets"
	"martello/classes"
	"martello/samples"
	"martello/scan"
	"martello/syntax"
	"martello/tables"
	"martello/trees"
)

// The model of Y1 cuts a pattern in tokens, and tells them, one by one, to a pile of what is open. It looks at no token ahead of its turn.

type tokenKind int

const (
	tokenAtoms  tokenKind = iota // any number of them
	tokenRepeat                  // a repeat without its Kid
	tokenOpen                    // a group, or none, whose parts begin under flags
	tokenFlags                   // flags alone
	tokenBar
	tokenClose
)

type token struct {
	kind  tokenKind
	atoms []api.Tree
	again api.Tree
	times int // behind a repeat's sign or count, ahead of the ? that belongs to it
	group bool
	name  string
	flags api.Flag
	end   int
	wrong api.Wrong
}

// modelRune is the rune's atom.
func modelRune(c rune, f api.Flag) api.Tree {
	orbit := tables.Orbit(c)
	if f&1 == 0 || len(orbit) == 1 {
		return api.Tree{Op: api.OpRune, Rune: c}
	}
	t := api.Tree{Op: api.OpSet}
	for _, d := range orbit {
		if n := len(t.Set); n > 0 && t.Set[n-1].Hi+1 == d {
			t.Set[n-1].Hi = d
		} else {
			t.Set = append(t.Set, api.Range{Lo: d, Hi: d})
		}
	}
	return t
}

func modelText(s string, f api.Flag) []api.Tree {
	var all []api.Tree
	for _, c := range []rune(s) {
		all = append(all, modelRune(c, f))
	}
	return all
}

func modelSet(set []api.Range) api.Tree {
	if len(set) > 0 {
		return api.Tree{Op: api.OpSet, Set: set}
	}
	return api.Tree{Op: api.OpNone}
}

// cutToken is the token at a place.
func cutToken(s string, at int, f api.Flag) token {
	perl, rest := f&32 != 0, s[at:]
	if k := cutRepeat(s, at, perl); k.end > 0 {
		return k
	}
	switch c, size := utf8.DecodeRuneInString(rest); c {
	case '|':
		return token{kind: tokenBar, end: at + 1}
	case ')':
		return token{kind: tokenClose, end: at + 1}
	case '(':
		return cutOpen(s, at, f)
	case '[':
		set, end, wrong := brackets.Class(s, at, f)
		return token{atoms: []api.Tree{modelSet(set)}, end: end, wrong: wrong}
	case '\\':
		return cutEscape(s, at, f)
	case '.':
		return token{atoms: []api.Tree{{Op: api.OpSet, Set: classes.Dot(f&8 != 0)}}, end: at + 1}
	case '^', '$':
		place := map[rune][2]api.At{'^': {1, 4}, '$': {2, 8}}[c][f&4/4]
		return token{atoms: []api.Tree{{Op: api.OpAt, At: place}}, end: at + 1}
	default:
		return token{atoms: []api.Tree{modelRune(c, f)}, end: at + size}
	}
}

func cutRepeat(s string, at int, perl bool) token {
	k := token{kind: tokenRepeat}
	if op := strings.IndexByte("*+?", s[at]); op >= 0 {
		k.again.Op, k.times = api.OpStar+api.Op(op), at+1
	} else {
		least, most, end, is := scan.Count(s, at)
		if !is {
			return token{}
		}
		k.again, k.times = api.Tree{Op: api.OpRepeat, Min: least, Max: most}, end
	}
	k.end = k.times
	if perl && strings.HasPrefix(s[k.end:], "?") {
		k.again.Lazy = true
		k.end++
	}
	return k
}

func cutOpen(s string, at int, f api.Flag) token {
	k := token{kind: tokenOpen, group: true, flags: f, end: at + 1}
	_, named, question := strings.Cut(s[at:], "(?")
	if f&32 == 0 || !question || !strings.HasPrefix(s[at:], "(?") {
		return k
	}
	if strings.HasPrefix(named, "<") || strings.HasPrefix(named, "P<") {
		k.name, k.end, k.wrong = scan.Name(s, at)
		return k
	}
	k.flags, k.group, k.end, k.wrong = scan.Flags(s, at, f)
	if !k.group {
		k.kind = tokenFlags
	}
	k.group = false
	return k
}

func cutEscape(s string, at int, f api.Flag) token {
	esc, end, wrong := scan.Escape(s, at, f&32 != 0)
	k := token{end: end, wrong: wrong}
	switch esc.Kind {
	case api.EscRune:
		k.atoms = []api.Tree{modelRune(esc.Rune, f)}
	case api.EscAt:
		k.atoms = []api.Tree{{Op: api.OpAt, At: esc.At}}
	case api.EscSet:
		if f&1 != 0 {
			esc.Set = tables.Fold(esc.Set)
		}
		k.atoms = []api.Tree{modelSet(esc.Set)}
	case api.EscQuote:
		n := strings.Index(s[end:], `\E`)
		if k.end = end + n + 2; n < 0 {
			n, k.end = len(s)-end, len(s)
		}
		k.atoms = modelText(s[end:end+n], f)
	}
	return k
}

// level is what is open: the pattern, a group, or parts under flags.
type level struct {
	flags api.Flag
	group bool
	tree  api.Tree // of a group, yet without its Kid
	parts [][]api.Tree
}

func (l *level) last() *[]api.Tree { return &l.parts[len(l.parts)-1] }

// closed is the tree of all parts.
func (l *level) closed() api.Tree {
	var all []api.Tree
	for _, atoms := range l.parts {
		t := api.Tree{Op: api.OpCat, Kids: atoms}
		if len(atoms) == 0 {
			t.Op = api.OpEmpty
		} else if len(atoms) == 1 {
			t = atoms[0]
		}
		all = append(all, t)
	}
	t := api.Tree{Op: api.OpAlt, Kids: all}
	if len(all) == 1 {
		t = all[0]
	}
	if l.group {
		l.tree.Kids = []api.Tree{t}
		return l.tree
	}
	return t
}

// model is Y1.
func model(s string, f api.Flag) (api.Tree, api.Wrong) {
	all := func(e api.Errno) (api.Tree, api.Wrong) { return api.Tree{}, api.Wrong{E: e, To: len(s)} }
	some := func(e api.Errno, from, to int) (api.Tree, api.Wrong) {
		return api.Tree{}, api.Wrong{E: e, From: from, To: to}
	}
	switch {
	case f < 0 || f > 63:
		return all(api.ErrArg)
	case len(s) > 1024:
		return all(api.ErrTooMany)
	case !utf8.ValidString(s):
		return all(api.ErrUTF8)
	case f&2 != 0:
		text := level{parts: [][]api.Tree{modelText(s, f)}}
		return text.closed(), api.Wrong{}
	}
	pile, groups, names := []level{{flags: f, parts: make([][]api.Tree, 1)}}, 0, []string{}
	repeatFrom, repeatEnd := -1, -1
	for at := 0; at < len(s); {
		top := &pile[len(pile)-1]
		k := cutToken(s, at, top.flags)
		if k.wrong.E != api.OK {
			return api.Tree{}, k.wrong
		}
		switch k.kind {
		case tokenAtoms:
			*top.last() = append(*top.last(), k.atoms...)
		case tokenFlags:
			top.flags = k.flags
		case tokenBar:
			top.parts = append(top.parts, nil)
		case tokenOpen:
			if k.name != "" && slices.Contains(names, k.name) {
				return some(api.ErrGroupName, at, k.end)
			}
			l := level{flags: k.flags, group: k.group, parts: make([][]api.Tree, 1)}
			if k.group {
				groups++
				names = append(names, k.name)
				l.tree = api.Tree{Op: api.OpCap, Cap: groups, Name: k.name}
			}
			pile = append(pile, l)
		case tokenClose:
			if len(pile) == 1 {
				return all(api.ErrParen)
			}
			pile = pile[:len(pile)-1]
			outer := pile[len(pile)-1].last()
			*outer = append(*outer, top.closed())
		case tokenRepeat:
			part := *top.last()
			if len(part) == 0 {
				return some(api.ErrMissing, at, k.times)
			}
			if k.again.Min > 1000 || k.again.Max > 1000 || k.again.Max != -1 && k.again.Max < k.again.Min {
				return some(api.ErrRepeat, at, k.times)
			}
			if repeatEnd == at {
				return some(api.ErrNested, repeatFrom, k.end)
			}
			repeatFrom, repeatEnd = at, k.end
			if top.flags&16 != 0 {
				k.again.Lazy = !k.again.Lazy
			}
			k.again.Kids = []api.Tree{part[len(part)-1]}
			part[len(part)-1] = k.again
		}
		at = k.end
	}
	if len(pile) > 1 {
		return all(api.ErrParen)
	}
	t := pile[0].closed()
	switch {
	case trees.Depth(t) > 50:
		return all(api.ErrDeep)
	case trees.Weight(t) > 4000:
		return all(api.ErrLarge)
	}
	return t, api.Wrong{}
}

// likeModel holds Parse against the model; it tells whether they tell the same.
func likeModel(t *testing.T, s string, f api.Flag) bool {
	t.Helper()
	tree, wrong := syntax.Parse(s, f)
	sound(t, s, f, tree, wrong)
	wantTree, wantWrong := model(s, f)
	if got, want := (answer{show(tree), wrong}), (answer{show(wantTree), wantWrong}); got != want {
		t.Errorf("Parse(%q, %d): %v; the model: %v", s, f, got, want)
	}
	return !t.Failed()
}

// TestShort: Y1, P8.2, P8.4 and rule P2: every short pattern of these pieces, on flags in turn, against the model.
func TestShort(t *testing.T) {
	for n, pieces := range map[int][]string{
		3: {"a", "k", "é", "1", "(", ")", "(?i)", "(?-i)", "(?U:", "(?:", "(?P<x>", "(?<y>", "|", "*", "+", "?", "{2}", "{2,1}", "{1001}", "{,", "{", "}", "[", "]", "[^k]", `\`, `\Q`, `\E`, `\d`, `\PL`, `\b`, ".", "^", "$", "-", "\xff"},
		4: {"k", "(", ")", "(?i)", "(?s:", "(?P<x>", "|", "*", "?", "{2,}", "{3,2}", `\Q`, `\E`, `\`, "[", "]", "."},
		5: {"a", "(", ")", "|", "*", "?", "(?U)", `\Q\E`},
	} {
		for i, s := range samples.Texts(n, pieces...) {
			for _, f := range []api.Flag{32, api.Flag(i * 7 % 64), api.Flag(i * 11 % 64)} {
				if !likeModel(t, s, f) {
					return
				}
			}
		}
	}
}

// TestShortAllFlags: Y1: short patterns on all flags against the model.
func TestShortAllFlags(t *testing.T) {
	for _, s := range samples.Texts(2, "a", "k", "ſ", "世", "(", ")", "(?i)", "(?-s)", "(?m-U)", "(?i:k)", "(?P<x>k)", "(?<x>", "()", "|", "*", "??", "{1}", "{5,2}", `\Qk*`, `\Qk\E`, `\Q\E`, `\w`, `\pL`, `\P{Any}`, `\x6b`, `\z`, `\q`, "[k]", "[^[:alpha:]]", "[b-a]", ".", "^", "$", "{", "(?") {
		for f := range api.FlagAll + 1 {
			if !likeModel(t, s, f) {
				return
			}
		}
	}
}

// TestLong: Y1: long patterns against the model: pieces in an order that is far from any.
func TestLong(t *testing.T) {
	pieces := []string{"a", "k", "K", "é", "世", "(", "(", "(?:", "(?i:", ")", ")", ")", "(?i)", "(?-i)", "(?U)", "(?s-m)", "(?m)", "|", "*", "+?", "?", "{2}", "{0,3}", "{2,}", "{", `\Q`, `\E`, `\Q*|(\E`, `\d`, `\s`, `\x{212a}`, `\pL`, `\PN`, `\b`, `\A`, ".", "^", "$", "[a-c]", "[^k]", "(?P<x>", "(?P<y>", "-"}
	seed, told := uint32(1), 0
	next := func(n int) int {
		seed = seed*1664525 + 1013904223
		return int(seed>>8) % n
	}
	for range 60000 {
		s := ""
		for range next(14) + 1 {
			s += pieces[next(len(pieces))]
		}
		s += strings.Repeat(")", max(0, strings.Count(s, "(")-strings.Count(s, ")"))*next(2))
		if !likeModel(t, s, []api.Flag{32, 33, 48, 32, 61, 0}[next(6)]) {
			return
		}
		if _, wrong := syntax.Parse(s, 32); wrong.E == api.OK {
			told++
		}
	}
	if told < 5000 {
		t.Errorf("just %d trees", told)
	}
}
