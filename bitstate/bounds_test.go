package bitstate_test

import (
	"slices"
	"strings"
	"testing"

	"martello/api"
	"martello/bitstate"
	"martello/denote"
	. "martello/samples"
)

// TestMostInsts: I2: programs of MaxInsts instructions, each of which leads to the next, up to a match.
func TestMostInsts(t *testing.T) {
	const last = api.MaxInsts - 1
	to := func(inst func(pc int) api.Inst) api.Prog {
		p := row(api.MaxInsts, func(pc int) api.Inst { return inst(min(pc, last-1)) })
		p.Insts[last] = Match()
		return p
	}
	five, six := Made(t, "aaaaa"), Made(t, "aaaaaa")
	keeps := to(func(pc int) api.Inst { return Keep(2+pc%2, pc+1) })
	bothFind(t, keeps, five, 3, []int{3, 3, 3, 3})
	admits(t, keeps, six, false)
	forks := to(func(pc int) api.Inst { return Fork(pc+1, last-pc/2) })
	bothFind(t, forks, five, 0, []int{0, 0, -1, -1})
	turned := to(func(pc int) api.Inst { return Fork(last-pc, pc+1) })
	bothFind(t, turned, five, 5, []int{5, 5, -1, -1})
	stands := to(func(pc int) api.Inst { return Stand(api.AtEnd, pc+1) })
	bothFind(t, stands, five, 0, []int{5, 5, -1, -1})
	// Every way is tried, from each place, and the stack is as deep as it may be: there is no match.
	none := row(api.MaxInsts, func(pc int) api.Inst { return Fork((pc+1)%api.MaxInsts, (pc+7)%api.MaxInsts) })
	bothFind(t, none, five, 0, nil)
	reads := row(api.MaxInsts, func(pc int) api.Inst {
		if pc%2 == 0 {
			return Fork(pc+1, (pc+2)%api.MaxInsts)
		}
		return Read((pc*7+1)%api.MaxInsts, 'a', 'a')
	})
	bothFind(t, reads, five, 0, nil)
	reads.Insts[4321] = Match()
	bothFind(t, reads, five, 0, modelFind(walked(reads, five, false), question{}))
}

// TestMostGroups: I2: as many places of groups as there may be: kept by one way, and put back behind it.
func TestMostGroups(t *testing.T) {
	const caps = 2*api.MaxGroups + 2
	p := row(caps+2, func(pc int) api.Inst {
		switch pc {
		case 0:
			return Fork(1, caps+1)
		case caps - 1:
			return Read(caps, 'b', 'b')
		case caps, caps + 1:
			return Match()
		}
		return Keep(pc+1, pc+1)
	})
	p.Caps = caps
	kept, none := slices.Repeat([]int{0}, caps), slices.Repeat([]int{-1}, caps)
	kept[1] = 1
	bothFind(t, p, Made(t, "b"), 0, kept)
	none[0], none[1] = 0, 0
	bothFind(t, p, Made(t, "a"), 0, none)
	p.Insts[caps+1] = Fail()
	bothFind(t, p, Made(t, "a"), 0, nil)
	p.Insts[caps+1] = Stand(api.AtEnd, caps)
	none[0], none[1] = 2, 2
	bothFind(t, p, Made(t, "aa"), 0, none)
}

// TestLongText: I2: texts as long as they may be.
func TestLongText(t *testing.T) {
	p := ProgOf(t, "(a)*")
	n := api.MaxBits/len(p.Insts) - 1
	letters := Made(t, strings.Repeat("a", n))
	bothFind(t, p, letters, 0, []int{0, n, n - 1, n})
	bothFind(t, p, letters, n, []int{n, n, -1, -1})
	bothFind(t, p, Made(t, strings.Repeat("a", n-1)+"b"), 0, []int{0, n - 1, n - 2, n - 1})
	p = ProgOf(t, "(?:a|b)*c")
	n = api.MaxBits/len(p.Insts) - 1
	both := strings.Repeat("ab", n)[:n]
	bothFind(t, p, Made(t, both), 0, nil)
	bothFind(t, p, Made(t, both[1:]+"c"), 0, []int{0, n})
	bothFind(t, p, Made(t, both[1:]+"c"), n-1, []int{n - 1, n})
	one := Program(Match())
	bothFind(t, one, Made(t, strings.Repeat("a", api.MaxBits-1)), api.MaxBits-1, []int{api.MaxBits - 1, api.MaxBits - 1, -1, -1})
	bothFind(t, Program(Fail()), Made(t, strings.Repeat("a", api.MaxBits-1)), 0, nil)
}

// TestManyWays: I2, theorem T4: patterns with more ways than could be gone one by one.
func TestManyWays(t *testing.T) {
	const n = 30
	letters := strings.Repeat("a", n)
	for _, pattern := range []string{"(a*)*b", "(a*)+b", "(a|aa)+b", "(a|a)*b", "(?:a*)*(?:a*)*(?:a*)*b", "(?:a?){30}a{30}b", "(x+x+)+y|((a+)+)+b", "(?:(?:(a*)*)*)*b", "(?:a|b|ab)*bc"} {
		p, tree := ProgOf(t, pattern), Parsed(t, pattern)
		for _, text := range []string{letters, letters + "b", "b" + letters} {
			in := Made(t, text)
			for _, q := range questions(0) {
				finds(t, p, in, q, meant(tree, p.Caps/2-1, in, q))
			}
		}
	}
	p := ProgOf(t, "(a*)+b")
	if _, is, steps := bitstate.New().Find(p, Made(t, letters), 0, false, false); is || steps > 1000 {
		t.Errorf("%t, %d steps", is, steps)
	}
}

// TestManyStarts: I2: what no way from places ahead has led to a match is not tried again from those behind.
func TestManyStarts(t *testing.T) {
	for _, pattern := range []string{"a*b", "(?:a|aa)*b", "(a*)(a*)b"} {
		p, tree := ProgOf(t, pattern), Parsed(t, pattern)
		in := Made(t, strings.Repeat("a", 2000)+"c")
		fit, is, steps := used.Find(p, in, 0, false, false)
		if most := 4 * len(p.Insts) * (in.Len() + 1); is || steps > most {
			t.Errorf("%q: %s, %t, %d steps; at most %d", pattern, shown(fit), is, steps, most)
		}
		short := Made(t, strings.Repeat("a", 50)+"c"+strings.Repeat("a", 20)+"b")
		for from := range short.Len() {
			want, _ := denote.Find(tree, p.Caps/2-1, short, from, false)
			finds(t, p, short, question{from: from}, want)
		}
	}
}

// TestManyMatches: I2, longest: matches that end farther and farther, with as many places of groups as there may be.
func TestManyMatches(t *testing.T) {
	p := Program(Fork(1, 2), Match(), Read(0, 'a', 'a'))
	p.Caps = 2*api.MaxGroups + 2
	want := slices.Repeat([]int{-1}, p.Caps)
	want[0], want[1] = 0, 1000
	finds(t, p, Made(t, strings.Repeat("a", 1000)), question{longest: true}, want)
	want[1] = 0
	finds(t, p, Made(t, strings.Repeat("a", 1000)), question{}, want)
}

// TestEarly: I2: steps are taken up to the match alone; longest, too, where none can end farther.
func TestEarly(t *testing.T) {
	p := ProgOf(t, "abc")
	_, _, few := used.Find(p, Made(t, "xabc"), 0, false, false)
	if _, is, many := used.Find(p, Made(t, "xabc"+strings.Repeat("abc", 2000)), 0, false, false); !is || many != few {
		t.Errorf("%d steps, and %d", few, many)
	}
	p, in := ProgOf(t, "(?:a|b|c)*"), Made(t, strings.Repeat("abc", 500))
	_, _, few = used.Find(p, in, 0, false, false)
	if _, is, longest := used.Find(p, in, 0, false, true); !is || longest != few {
		t.Errorf("%d steps, and longest %d", few, longest)
	}
}

// TestLongSets: I2: sets of many ranges.
func TestLongSets(t *testing.T) {
	var odd []api.Range
	for c := rune(1); c <= api.MaxRune; c += 2 {
		odd = append(odd, Ranges(c, c)...)
	}
	p := Program(api.Inst{Op: api.InstSet, Set: odd, Out: 1}, Keep(2, 2), Read(3, 0, 0), Match())
	bothFind(t, p, Made(t, "\U0010ffff\x01\x00\x00"), 0, []int{1, 3, 2, -1})
	bothFind(t, p, Made(t, "bdfh\U0010fffe\x00"), 0, nil)
}
