package classes_test

import (
	"slices"
	"strings"
	"testing"

	"martello/api"
	"martello/classes"
	"martello/sets"
	"martello/tables"
)

// The calls of the chapter, by their signatures.
var (
	_ func(byte) ([]api.Range, bool)         = classes.Perl
	_ func(string) ([]api.Range, bool)       = classes.Posix
	_ func(string, bool) ([]api.Range, bool) = classes.Property
	_ func(bool) []api.Range                 = classes.Dot
)

// TestExamples: the chapter's table.
func TestExamples(t *testing.T) {
	l, ok := classes.Perl('d')
	tells(t, "Perl d", l, ok, listOf("30-39"))
	l, ok = classes.Perl('x')
	tellsNone(t, "Perl x", l, ok)
	l, ok = classes.Posix("^ascii")
	tells(t, "Posix ^ascii", l, ok, listOf("80-10FFFF"))
	l, ok = classes.Property("^Nd", true)
	tells(t, "Property ^Nd, not", l, ok, listOf("30-39, 660-669"))
}

// TestPerl: L1: every byte: the six letters, and all others, of which there is none.
func TestPerl(t *testing.T) {
	all := table(chapterLetters)
	for _, small := range []string{"d", "s", "w"} {
		all[strings.ToUpper(small)] = others(all[small])
	}
	if len(all) != 6 {
		t.Fatalf("%d letters", len(all))
	}
	for c := range 256 {
		l, ok := classes.Perl(byte(c))
		if want, is := all[string(rune(c))]; is {
			tells(t, "Perl "+string(rune(c)), l, ok, want)
		} else {
			tellsNone(t, "Perl "+string(rune(c)), l, ok)
		}
	}
}

// TestPerlWritten: L1: what the great letters have, and that s has no vertical tab, as space between colons does.
func TestPerlWritten(t *testing.T) {
	for c, want := range map[byte]string{
		'D': "0-2F, 3A-10FFFF", 'S': "0-8, B, E-1F, 21-10FFFF", 'W': "0-2F, 3A-40, 5B-5E, 60, 7B-10FFFF",
	} {
		l, ok := classes.Perl(c)
		tells(t, "Perl "+string(rune(c)), l, ok, listOf(want))
	}
	if l, _ := classes.Perl('s'); sets.Has(l, 0xb) || !sets.Has(l, 0xc) {
		t.Errorf("Perl s: %x", l)
	}
}

// TestPosix: L1: every name, alone and with a ^ ahead, with its whole set.
func TestPosix(t *testing.T) {
	all := table(chapterNames)
	if len(all) != 14 {
		t.Errorf("%d names", len(all))
	}
	for name, set := range all {
		l, ok := classes.Posix(name)
		tells(t, "Posix "+name, l, ok, set)
		l, ok = classes.Posix("^" + name)
		tells(t, "Posix ^"+name, l, ok, others(set))
	}
}

// TestPosixNone: L1: what is nearly a name is none, with a ^ ahead too.
func TestPosixNone(t *testing.T) {
	all := table(chapterNames)
	none := []string{"", "^", "^^", " ", "\x00", "\xff", "Any", "L", "Nd", "d", "w", "x", "alphaalnum", "alpha|alnum", "ａｌｐｈａ", strings.Repeat("alpha", 100000), strings.Repeat("^", 100000)}
	for name := range all {
		none = append(none, nearly(name)...)
	}
	for _, name := range none {
		if all[name] != nil {
			continue
		}
		l, ok := classes.Posix(name)
		tellsNone(t, "Posix "+name, l, ok)
		if !strings.HasPrefix(name, "^") {
			l, ok = classes.Posix("^" + name)
			tellsNone(t, "Posix ^"+name, l, ok)
		}
	}
}

// nearly are names that are none, but for a letter, a sign, or one ^ too many. (Of a name in two letters the first one may be a name.)
func nearly(name string) []string {
	return []string{
		"^^" + name, "^^^" + name, "^" + name + "^", name + "^", "^ " + name, " ^" + name, "!" + name, "-" + name, "~" + name,
		strings.ToUpper(name), strings.ToLower(name), swapped(name), name + "s", name + " ", " " + name, name + "\n", name + "\x00", "\x00" + name, name + "\xff", name + ":", ":" + name + ":", "[:" + name + ":]", "{" + name + "}", name + name, name[1:], name[:len(name)-1],
	}
}

// swapped is a name whose first letter is great where it was small, and the other way round.
func swapped(name string) string {
	first := name[:1]
	if strings.ToUpper(first) == first {
		return strings.ToLower(first) + name[1:]
	}
	return strings.ToUpper(first) + name[1:]
}

// properties are the sets of layer 3 by their names, and all runes by theirs.
func properties(t *testing.T) map[string][]api.Range {
	all := map[string][]api.Range{"Any": everything()}
	for _, name := range strings.Fields(tableNames) {
		set, ok := tables.Named(name)
		if !ok || len(set) == 0 {
			t.Fatalf("%s: no name of tables", name)
		}
		all[name] = set
	}
	return all
}

// TestProperty: L2: every name of tables, and Any, alone and with a ^ ahead, with not and without.
func TestProperty(t *testing.T) {
	for name, set := range properties(t) {
		for _, not := range []bool{false, true} {
			want, turned := set, others(set)
			if not {
				want, turned = turned, want
			}
			l, ok := classes.Property(name, not)
			tells(t, "Property "+name, l, ok, want)
			l, ok = classes.Property("^"+name, not)
			tells(t, "Property ^"+name, l, ok, turned)
		}
	}
}

// TestPropertyWritten: L2: some of them by numbers; a set without a rune is one that there is.
func TestPropertyWritten(t *testing.T) {
	for _, x := range []struct {
		name string
		not  bool
		want []api.Range
	}{
		{"Nd", false, listOf("30-39, 660-669")}, {"Nd", true, listOf("0-2F, 3A-65F, 66A-10FFFF")}, {"^Nd", false, listOf("0-2F, 3A-65F, 66A-10FFFF")}, {"^Nd", true, listOf("30-39, 660-669")},
		{"Cc", true, listOf("20-7E, A0-10FFFF")}, {"^Han", false, listOf("0-4DFF, A000-10FFFF")},
		{"Any", false, everything()}, {"Any", true, nil}, {"^Any", false, nil}, {"^Any", true, everything()},
	} {
		l, ok := classes.Property(x.name, x.not)
		tells(t, "Property "+x.name, l, ok, x.want)
	}
}

// TestPropertyNone: L2: what is nearly a name is none: alone, with a ^ or two ahead, with not and without.
func TestPropertyNone(t *testing.T) {
	all := properties(t)
	none := []string{"", "^", "^^", " ", "\x00", "\xff", "M", "C", "Lt", "Lo", "Zs", "Hebrew", "alpha", "digit", "d", "any", "ANY", "An", "Anyany", "Ａｎｙ", strings.Repeat("L", 100000), strings.Repeat("^", 100000)}
	for name := range all {
		none = append(none, nearly(name)...)
	}
	for _, name := range none {
		for _, not := range []bool{false, true} {
			if all[name] != nil {
				continue
			}
			l, ok := classes.Property(name, not)
			tellsNone(t, "Property "+name, l, ok)
			l, ok = classes.Property("^^"+name, not)
			tellsNone(t, "Property ^^"+name, l, ok)
			if !strings.HasPrefix(name, "^") {
				l, ok = classes.Property("^"+name, not)
				tellsNone(t, "Property ^"+name, l, ok)
			}
		}
	}
}

// TestDot: L3: both.
func TestDot(t *testing.T) {
	tells(t, "Dot, all", classes.Dot(true), true, everything())
	tells(t, "Dot", classes.Dot(false), true, listOf("0-9, B-10FFFF"))
}

// TestTurned: P4.2: a great letter, a ^, and not against the other one, rune by rune.
func TestTurned(t *testing.T) {
	for _, c := range []byte("dsw") {
		small, _ := classes.Perl(c)
		great, _ := classes.Perl(c - 'a' + 'A')
		apart(t, "Perl "+string(rune(c)), small, great)
	}
	for name := range table(chapterNames) {
		set, _ := classes.Posix(name)
		turned, _ := classes.Posix("^" + name)
		apart(t, "Posix "+name, set, turned)
	}
	for name := range properties(t) {
		set, _ := classes.Property(name, false)
		turned, _ := classes.Property("^"+name, false)
		not, _ := classes.Property(name, true)
		twice, _ := classes.Property("^"+name, true)
		apart(t, "Property ^"+name, set, turned)
		apart(t, "Property, not, "+name, set, not)
		apart(t, "Property, not, ^"+name, turned, twice)
	}
	apart(t, "Dot", classes.Dot(false), listOf("A"))
}

// TestMemory: rule P3: what was told may be changed, to its last room: neither another answer nor what is told behind that changes; and all are sets.
func TestMemory(t *testing.T) {
	for call, ask := range calls(t) {
		first, ok := ask()
		if !ok || !sets.Right(first) {
			t.Errorf("%s: %x, %v", call, first, ok)
		}
		was := slices.Clone(first)
		second, _ := ask()
		room := first[:cap(first)]
		for i := range room {
			room[i] = api.Range{Lo: 77, Hi: 78}
		}
		third, ok := ask()
		if !ok || !slices.Equal(second, was) || !slices.Equal(third, was) {
			t.Errorf("%s: %x, %x; not %x, when another answer was changed", call, second, third, was)
		}
	}
}

// calls are all of which there is a set.
func calls(t *testing.T) map[string]func() ([]api.Range, bool) {
	all := map[string]func() ([]api.Range, bool){}
	for _, c := range []byte("dswDSW") {
		all["Perl "+string(rune(c))] = func() ([]api.Range, bool) { return classes.Perl(c) }
	}
	for name := range table(chapterNames) {
		all["Posix "+name] = func() ([]api.Range, bool) { return classes.Posix(name) }
		all["Posix ^"+name] = func() ([]api.Range, bool) { return classes.Posix("^" + name) }
	}
	for _, not := range []bool{false, true} {
		for name := range properties(t) {
			call := map[bool]string{false: "Property ", true: "Property, not, "}[not]
			all[call+name] = func() ([]api.Range, bool) { return classes.Property(name, not) }
			all[call+"^"+name] = func() ([]api.Range, bool) { return classes.Property("^"+name, not) }
		}
		all[map[bool]string{false: "Dot", true: "Dot, all"}[not]] = func() ([]api.Range, bool) { return classes.Dot(not), true }
	}
	return all
}
