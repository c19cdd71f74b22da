package trees_test

import (
	"math/big"
	"slices"
	"strconv"
	"strings"
	"testing"

	"martello/api"
	. "martello/samples"
)

// chapterOps are the chapter's words of each Op: how many Kids it has, and which fields it may have beside them.
const chapterOps = `
1 None none
2 Empty none
3 Rune none Rune
4 Set none Set
5 At none At
6 Cap one Cap Name
7 Star one Lazy
8 Plus one Lazy
9 Quest one Lazy
10 Repeat one Min Max Lazy
11 Cat any
12 Alt some
`

// rule is a line of it.
type rule struct{ op, kids, fields string }

// rules are all lines, by their Ops.
func rules() map[api.Op]rule {
	all := map[api.Op]rule{}
	for _, line := range strings.Split(strings.TrimSpace(chapterOps), "\n") {
		f := strings.Fields(line)
		n, err := strconv.Atoi(f[0])
		if err != nil {
			panic(err)
		}
		all[api.Op(n)] = rule{f[1], f[2], " " + strings.Join(f[3:], " ") + " "}
	}
	return all
}

// may: may it have a field of that name?
func (r rule) may(field string) bool { return strings.Contains(r.fields, " "+field+" ") }

// model tells of a tree what the chapter says, worked out in another manner than the program's: all that is wrong is gathered, and numbers have no bound.
type model struct {
	rules map[api.Op]rule
}

func newModel() model { return model{rules()} }

// misshapen is all that is wrong of a tree, but for its groups' numbers and names, its depth, its weight.
func (m model) misshapen(t api.Tree) []string {
	r, is := m.rules[t.Op]
	if !is {
		return []string{"Op"}
	}
	wrong := m.fields(r, t)
	if n := len(t.Kids); r.kids == "none" && n != 0 || r.kids == "one" && n != 1 || r.kids == "some" && n == 0 {
		wrong = append(wrong, "Kids")
	}
	for _, kid := range t.Kids {
		wrong = append(wrong, m.misshapen(kid)...)
	}
	return wrong
}

// fields are those of one part that are wrong: it may have them, and their value may not be; or it may not, and they are not zero.
func (m model) fields(r rule, t api.Tree) []string {
	var wrong []string
	must := func(field string, right, zero bool) {
		if r.may(field) && !right || !r.may(field) && !zero {
			wrong = append(wrong, field)
		}
	}
	must("Rune", 0 <= t.Rune && t.Rune <= 0x10ffff, t.Rune == 0)
	must("Set", modelSet(t.Set), len(t.Set) == 0)
	must("At", slices.Contains([]api.At{1, 2, 4, 8, 16, 32}, t.At), t.At == 0)
	must("Cap", t.Cap >= 1, t.Cap == 0)
	must("Name", t.Name == "" || modelName(t.Name), t.Name == "")
	must("Min", 0 <= t.Min && t.Min <= 1000, t.Min == 0)
	must("Max", t.Max == -1 || t.Min <= t.Max && t.Max <= 1000, t.Max == 0)
	must("Lazy", true, !t.Lazy)
	return wrong
}

// modelSet: is it a set with a range at least? Told by both ends of all ranges, one behind the other.
func modelSet(l []api.Range) bool {
	ends := []int{-2}
	for _, r := range l {
		ends = append(ends, int(r.Lo), int(r.Hi))
	}
	for i := 1; i < len(ends); i++ {
		least := ends[i-1]
		if i%2 == 1 {
			least += 2
		}
		if ends[i] < least {
			return false
		}
	}
	return len(l) > 0 && ends[len(ends)-1] <= 0x10ffff
}

// modelName: is it a name?
func modelName(name string) bool {
	const letters, digits = "_ABCDEFGHIJKLMNOPQRSTUVWXYZabcdefghijklmnopqrstuvwxyz", "0123456789"
	may := letters
	for _, c := range name {
		if !strings.ContainsRune(may, c) {
			return false
		}
		may = letters + digits
	}
	return name != "" && len(name) <= 32
}

// groups are a tree's, in the order in which they begin.
func (m model) groups(t api.Tree) []api.Tree {
	var all []api.Tree
	if t.Op == api.OpCap {
		all = append(all, t)
	}
	for _, kid := range t.Kids {
		all = append(all, m.groups(kid)...)
	}
	return all
}

// wrong is all that is wrong of a tree.
func (m model) wrong(t api.Tree) []string {
	wrong := m.misshapen(t)
	names := map[string]bool{}
	for i, g := range m.groups(t) {
		if g.Cap != i+1 {
			wrong = append(wrong, "number")
		}
		if names[g.Name] {
			wrong = append(wrong, "twice")
		}
		names[g.Name] = g.Name != ""
	}
	if m.depth(t) > 50 {
		wrong = append(wrong, "deep")
	}
	if m.weight(t) > 4000 {
		wrong = append(wrong, "heavy")
	}
	return wrong
}

func (m model) depth(t api.Tree) int {
	depths := []int{0}
	for _, kid := range t.Kids {
		depths = append(depths, m.depth(kid))
	}
	return slices.Max(depths) + 1
}

// weight is the whole one, and cut last.
func (m model) weight(t api.Tree) int {
	w := m.wholeWeight(t)
	if w.Cmp(big.NewInt(4001)) > 0 {
		return 4001
	}
	return int(w.Int64())
}

func (m model) wholeWeight(t api.Tree) *big.Int {
	kids := big.NewInt(0)
	for _, kid := range t.Kids {
		kids.Add(kids, m.wholeWeight(kid))
	}
	one := big.NewInt(1)
	switch m.rules[t.Op].op {
	case "Cap":
		return kids.Add(kids, big.NewInt(2))
	case "Star", "Plus", "Quest", "Cat":
		return kids.Add(kids, one)
	case "Repeat":
		n := big.NewInt(int64(slices.Max([]int{t.Min, t.Max, 1})))
		return kids.Add(kids.Mul(kids, n), n.Add(n, one))
	case "Alt":
		return kids.Add(kids, big.NewInt(int64(len(t.Kids))))
	}
	return one
}

// never is as long as nothing is.
const never = 1 << 20

// least is how few runes a right tree may fit, wherever it is asked; never, if it fits none.
func (m model) least(t api.Tree) int {
	var kids []int
	sum := 0
	for _, kid := range t.Kids {
		l := m.least(kid)
		kids = append(kids, l)
		sum += l
	}
	switch m.rules[t.Op].op {
	case "None":
		return never
	case "Rune", "Set":
		return 1
	case "Cap", "Plus", "Cat":
		return min(sum, never)
	case "Repeat":
		return min(t.Min*sum, never)
	case "Alt":
		return slices.Min(kids)
	}
	return 0
}

// still is as the chapter says it, Op by Op.
func (m model) still(t api.Tree) bool {
	switch m.rules[t.Op].op {
	case "Rune", "Set":
		return false
	case "None", "Empty", "At":
		return true
	}
	all := true
	for _, kid := range t.Kids {
		all = all && m.still(kid)
	}
	return all
}

// ungrouped is a tree without its groups; from behind, if it is asked for. No list of it is the tree's.
func (m model) ungrouped(t api.Tree, behind bool) api.Tree {
	if m.rules[t.Op].op == "Cap" {
		return m.ungrouped(t.Kids[0], behind)
	}
	var kids []api.Tree
	for _, kid := range t.Kids {
		kid = m.ungrouped(kid, behind)
		if behind && m.rules[t.Op].op == "Cat" {
			kids = append([]api.Tree{kid}, kids...)
		} else {
			kids = append(kids, kid)
		}
	}
	t.Kids, t.Set = kids, append([]api.Range(nil), t.Set...)
	if behind && t.At > 0 {
		t.At = []api.At{0: 0, 1: 2, 2: 1, 4: 8, 8: 4, 16: 16, 32: 32}[t.At]
	}
	return t
}

// has: does an Op stand in a tree?
func (m model) has(t api.Tree, op string) bool {
	return m.rules[t.Op].op == op || slices.ContainsFunc(t.Kids, func(kid api.Tree) bool { return m.has(kid, op) })
}

// numbered is a copy of a tree whose groups have the numbers from next on; names that are not empty are x and the number.
func renumbered(t api.Tree, next *int) api.Tree {
	if t.Op == api.OpCap {
		t.Cap = *next
		*next++
		if t.Name != "" {
			t.Name = "x" + strconv.Itoa(t.Cap)
		}
	}
	t.Set = slices.Clone(t.Set)
	t.Kids = slices.Clone(t.Kids)
	for i, kid := range t.Kids {
		t.Kids[i] = renumbered(kid, next)
	}
	return t
}

// fromOne is a copy of a tree whose groups are numbered as they must be.
func fromOne(t api.Tree) api.Tree {
	next := 1
	return renumbered(t, &next)
}

// copied is a tree that shares no list with another one.
func copied(t api.Tree) api.Tree {
	t.Set = slices.Clone(t.Set)
	t.Kids = slices.Clone(t.Kids)
	for i, kid := range t.Kids {
		t.Kids[i] = copied(kid)
	}
	return t
}

// show is a tree as a short text, all that is in it.
func show(t api.Tree) string {
	s := "Op" + strconv.Itoa(int(t.Op))
	if r, is := rules()[t.Op]; is {
		s = r.op
	}
	add := func(name string, n int) {
		if n != 0 {
			s += " " + name + strconv.Itoa(n)
		}
	}
	add("rune", int(t.Rune))
	for _, r := range t.Set {
		s += " " + strconv.Itoa(int(r.Lo)) + "-" + strconv.Itoa(int(r.Hi))
	}
	add("at", int(t.At))
	add("cap", t.Cap)
	if t.Name != "" {
		s += " " + strconv.Quote(t.Name)
	}
	add("min", t.Min)
	add("max", t.Max)
	if t.Lazy {
		s += " lazy"
	}
	for i, kid := range t.Kids {
		if i == 5 {
			return s + " (.. " + strconv.Itoa(len(t.Kids)) + ")"
		}
		s += " (" + show(kid) + ")"
		if len(s) > 400 {
			return s[:400] + ".."
		}
	}
	return s
}

// TestModel: the model, against trees of which all is written out.
func TestModel(t *testing.T) {
	m := newModel()
	if len(m.rules) != 12 {
		t.Fatalf("%d Ops", len(m.rules))
	}
	for _, x := range []struct {
		t     api.Tree
		wrong string
	}{
		{Cat(Group(1, "x", Letter('a')), Group(2, "", Letter('b'))), ""},
		{Cat(Group(1, "x", Letter('a')), Group(2, "x", Letter('b'))), "twice"},
		{Cat(Group(2, "x", Letter('a')), Group(1, "", Letter('b'))), "number number"},
		{api.Tree{Op: 3, Rune: -1, Lazy: true}, "Rune Lazy"},
		{api.Tree{Op: 4}, "Set"},
		{api.Tree{Op: 10, Min: 2, Max: 1}, "Max Kids"},
		{chain(51), "deep"},
		{Repeat(1000, 1000, Cat(Letter('a'), Letter('a'))), "heavy"},
	} {
		if w := strings.Join(m.wrong(x.t), " "); w != x.wrong {
			t.Errorf("%s: wrong is %q; not %q", show(x.t), w, x.wrong)
		}
	}
	if n := m.wholeWeight(Repeat(1000, 1000, Cat(Letter('a'), Letter('a')))).Int64(); n != 4001 {
		t.Errorf("weight %d", n)
	}
}
