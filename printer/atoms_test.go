package printer_test

import (
	"fmt"
	"strings"
	"testing"

	"martello/api"
	"martello/printer"
	. "martello/samples"
)

// textsBelow128 are those of the runes 0 to 7f, in order; the blank, and the back quote, by their names.
const textsBelow128 = `
\x{0} \x{1} \x{2} \x{3} \x{4} \x{5} \x{6} \x{7} \x{8} \x{9} \x{a} \x{b} \x{c} \x{d} \x{e} \x{f}
\x{10} \x{11} \x{12} \x{13} \x{14} \x{15} \x{16} \x{17} \x{18} \x{19} \x{1a} \x{1b} \x{1c} \x{1d} \x{1e} \x{1f}
blank ! " # \$ % & ' \( \) \* \+ , - \. /
0 1 2 3 4 5 6 7 8 9 : ; < = > \?
@ A B C D E F G H I J K L M N O
P Q R S T U V W X Y Z \[ \\ \] \^ _
backquote a b c d e f g h i j k l m n o
p q r s t u v w x y z \{ \| \} ~ \x{7f}
`

// below128 are these texts, by their runes.
func below128() []string {
	all := strings.Fields(textsBelow128)
	all[' '], all['`'] = " ", "`"
	return all
}

// TestRunesBelow128: P9.1: each, alone and beside others.
func TestRunesBelow128(t *testing.T) {
	all := below128()
	if len(all) != 128 {
		t.Fatal(len(all))
	}
	for c, text := range all {
		tree := Letter(rune(c))
		prints(t, tree, text)
		prints(t, Cat(tree, tree), text+text)
		prints(t, Cat(Letter('1'), tree, Letter('f')), "1"+text+"f")
		prints(t, Alt(tree, tree), text+"|"+text)
		prints(t, Star(tree), text+"*")
		prints(t, Group(1, "", tree), "("+text+")")
		again(t, tree)
		again(t, Cat(tree, tree, Letter('a'), tree))
	}
	prints(t, Cat(Letter('a'), Letter('{'), Letter('2'), Letter('}')), `a\{2\}`)
	prints(t, Cat(Letter('\\'), Letter('x'), Letter('{'), Letter('0'), Letter('}')), `\\x\{0\}`)
	prints(t, Cat(Letter('['), Letter('a'), Letter('-'), Letter('b'), Letter(']')), `\[a-b\]`)
	prints(t, Cat(Letter('('), Letter('?'), Letter(':'), Letter(')')), `\(\?:\)`)
}

// TestRunesAbove: P9.1: numbers in hexadecimal, small letters, without noughts ahead.
func TestRunesAbove(t *testing.T) {
	for c, text := range map[rune]string{
		0x80: `\x{80}`, 0x9f: `\x{9f}`, 0xa0: `\x{a0}`, 0xaa: `\x{aa}`, 0xb5: `\x{b5}`, 0xe9: `\x{e9}`, 0xff: `\x{ff}`, 0x100: `\x{100}`, 0x131: `\x{131}`, 0x17f: `\x{17f}`, 0x3a3: `\x{3a3}`, 0x410: `\x{410}`, 0x660: `\x{660}`, 0xabc: `\x{abc}`, 0xdef: `\x{def}`, 0xfff: `\x{fff}`, 0x1000: `\x{1000}`, 0x2028: `\x{2028}`, 0x212a: `\x{212a}`, 0x4e00: `\x{4e00}`, 0xd7ff: `\x{d7ff}`, 0xd800: `\x{d800}`, 0xdfff: `\x{dfff}`, 0xe000: `\x{e000}`, 0xfeff: `\x{feff}`, 0xfffd: `\x{fffd}`, 0xffff: `\x{ffff}`, 0x10000: `\x{10000}`, 0x1f600: `\x{1f600}`, 0xabcde: `\x{abcde}`, 0xfffff: `\x{fffff}`, 0x100000: `\x{100000}`, 0x10fffe: `\x{10fffe}`, 0x10ffff: `\x{10ffff}`,
	} {
		prints(t, Letter(c), text)
		prints(t, Plus(Letter(c)), text+"+")
		prints(t, Cat(Letter(c), Letter(c)), text+text)
		again(t, Cat(Letter('a'), Letter(c), Letter(c)))
	}
}

// TestEachRune: P9.1 and P9.2 of every rune, alone, and as a set, and as the end of one.
func TestEachRune(t *testing.T) {
	for c := rune(0); c <= api.MaxRune && !t.Failed(); c++ {
		number := fmt.Sprintf(`\x{%x}`, c)
		prints(t, Letter(c), runeText(c))
		prints(t, Set(c, c), "["+number+"]")
		if c > 0 {
			prints(t, Set(0, c), `[\x{0}-`+number+"]")
		}
		if c < api.MaxRune {
			prints(t, Set(c, api.MaxRune), "["+number+`-\x{10ffff}]`)
		}
		if c%16 == 0 || c < 0x3000 || c >= 0x10fff0 {
			again(t, Letter(c))
			again(t, Set(c, c))
		}
	}
}

// TestSets: P9.1: ranges of one rune and of more, one and several; by numbers, also where a rune alone is not.
func TestSets(t *testing.T) {
	for _, x := range []struct {
		tree api.Tree
		want string
	}{
		{Set('a', 'a'), `[\x{61}]`}, {Set('a', 'b'), `[\x{61}-\x{62}]`}, {Set('a', 'z'), `[\x{61}-\x{7a}]`}, {Set(0, 0), `[\x{0}]`}, {Set(0, 1), `[\x{0}-\x{1}]`}, {Set(0, 0x10ffff), `[\x{0}-\x{10ffff}]`}, {Set(0x10ffff, 0x10ffff), `[\x{10ffff}]`}, {Set(0x10fffe, 0x10ffff), `[\x{10fffe}-\x{10ffff}]`}, {Set(0xd800, 0xdfff), `[\x{d800}-\x{dfff}]`},
		{Set('a', 'a', 'c', 'c'), `[\x{61}\x{63}]`}, {Set('a', 'b', 'd', 'e'), `[\x{61}-\x{62}\x{64}-\x{65}]`}, {Set('a', 'a', 'c', 'd'), `[\x{61}\x{63}-\x{64}]`}, {Set('a', 'b', 'd', 'd'), `[\x{61}-\x{62}\x{64}]`}, {Set(0, 9, 11, 0x10ffff), `[\x{0}-\x{9}\x{b}-\x{10ffff}]`}, {Set('0', '9', 'A', 'Z', '_', '_', 'a', 'z'), `[\x{30}-\x{39}\x{41}-\x{5a}\x{5f}\x{61}-\x{7a}]`},
		{Set('-', '-'), `[\x{2d}]`}, {Set(']', '^'), `[\x{5d}-\x{5e}]`}, {Set('[', '\\', '^', '^'), `[\x{5b}-\x{5c}\x{5e}]`}, {Set('K', 'K', 'k', 'k', 0x212a, 0x212a), `[\x{4b}\x{6b}\x{212a}]`}, {Set(0, 0, 2, 2, 4, 4, 6, 7, 9, 9, 11, 0xabcdef-0xa00000), `[\x{0}\x{2}\x{4}\x{6}-\x{7}\x{9}\x{b}-\x{bcdef}]`},
	} {
		prints(t, x.tree, x.want)
		prints(t, Lazy(Star(x.tree)), x.want+"*?")
		prints(t, Cat(x.tree, Letter('a'), x.tree), x.want+"a"+x.want)
		again(t, x.tree)
		again(t, Cat(x.tree, Plus(x.tree)))
	}
}

// TestGreatSets: P9.1: sets of very many ranges, whose texts no pattern may be.
func TestGreatSets(t *testing.T) {
	for _, step := range []rune{2, 3, 1000} {
		many := api.Tree{Op: api.OpSet}
		for c := rune(0); c <= api.MaxRune; c += step {
			many.Set = append(many.Set, api.Range{Lo: c, Hi: min(c+step-2, api.MaxRune)})
		}
		var want strings.Builder
		for _, r := range many.Set {
			want.WriteString(strings.Trim(setText([]api.Range{r}), "[]"))
		}
		text, e := printer.Print(Group(1, "x", many))
		if e != api.OK || text != "(?P<x>["+want.String()+"])" {
			t.Errorf("%d ranges: %d bytes, %d", len(many.Set), len(text), e)
		}
	}
}

// TestAts: P9.1: each At; those at lines' ends with their flag.
func TestAts(t *testing.T) {
	for a, text := range map[api.At]string{api.AtBegin: `\A`, api.AtEnd: `\z`, api.AtBeginLine: `(?m:^)`, api.AtEndLine: `(?m:$)`, api.AtWord: `\b`, api.AtNoWord: `\B`} {
		prints(t, At(a), text)
		prints(t, Cat(At(a), Letter('a'), At(a), At(a)), text+"a"+text+text)
		prints(t, Alt(At(a), At(a)), text+"|"+text)
		prints(t, Group(1, "", At(a)), "("+text+")")
		for _, outer := range wRepeats() {
			w := outer(written{At(a), text, firm})
			prints(t, w.tree, w.text)
			again(t, w.tree)
		}
		again(t, Cat(Letter('A'), At(a), Letter('z')))
	}
}
