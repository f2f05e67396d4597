package match_test

import (
	"fmt"
	"math"
	"math/rand"
	"slices"
	"strings"
	"testing"

	"sorrel/api"
	"sorrel/match"
	"sorrel/pattern"
	"sorrel/picture"
)

// The chapter's examples.

func TestExamples(t *testing.T) {
	p := told(t, "x + x", "x = x + 0")
	if want := "0: 1/0/[] size 1; 1: 2/0/x[] 5/0/[1 0] size 1; 2: 5/0/[1 1] size 3; 3 classes"; text(p) != want {
		t.Fatal(text(p))
	}
	finds(t, pat(t, "@a + 0"), p, 1, "[[1]]")
	finds(t, pat(t, "@a + 0"), p, 0, "[]")
	finds(t, pat(t, "@a + 0"), p, 2, "[]")
	finds(t, pat(t, "@a + @b"), p, 1, "[[1 0]]")
	finds(t, pat(t, "@a + @b"), p, 2, "[[1 1]]")
	finds(t, pat(t, "@a"), p, 2, "[[2]]")
	findsAll(t, pat(t, "@a + @b"), p, []api.Match{{Class: 1, Holes: []int{1, 0}}, {Class: 2, Holes: []int{1, 1}}})
	located(t, pat(t, "@a + @b"), p, []int{1, 0}, 1)
	located(t, pat(t, "@a + @b"), p, []int{0, 1}, none)
	astray(t, "one number alone", pat(t, "@a + @b"), p, []int{1}, api.ErrArg)
}

// P16.1, P16.2

func TestStands(t *testing.T) {
	p := told(t, "x + 0", "x + x", "y = -x", "-(x + y) = y * y", "x ? y : 0", "7", "0 = z", "y + x", "(x + y) * (x + y)", "(x + x) * (x + y)", "0 ? 0 : 0")
	for _, c := range []struct {
		pattern string
		many    int
	}{
		// Without holes: of each that stands somewhere it is the empty list, at one class.
		{"x", 1}, {"u", 0}, {"7", 1}, {"8", 0}, {"-7", 0}, {"z", 1}, {"0", 1}, {"z + x", 0}, {"x + z", 1}, {"x + 0", 1}, {"-x", 1}, {"y", 1}, {"--x", 0}, {"x ? -x : z", 1}, {"(x + y) * (x + -x)", 1}, {"x * x", 0},
		// One alone stands at all classes.
		{"@a", len(p.Classes)}, {"@x", len(p.Classes)},
		{"-@a", 2}, {"~@a", 0}, {"@a + 0", 1}, {"@a + 1", 0}, {"@a + @a", 1}, {"@a + @b", 4}, {"@b + @a", 4}, {"x + @a", 3}, {"@a + x", 2}, {"@x + x", 2}, {"@x + @x", 1}, {"x + @y", 3},
		{"@a * @a", 2}, {"@a * @b", 3}, {"(@a + @b) * (@a + @b)", 1}, {"(@a + @b) * (@c + @d)", 2}, {"(@a + @b) * (@a + @c)", 2}, {"(@a + @b) * (@c + @b)", 1}, {"(@a + @a) * (@a + @b)", 1},
		{"@a ? @b : @c", 2}, {"@a ? @a : @a", 1}, {"@a ? @b : 0", 2}, {"@a ? @b : @b", 1}, {"@c ? -@c : @d", 1}, {"-(@a + -@a)", 1},
	} {
		if many := held(t, pat(t, c.pattern), p); many != c.many {
			t.Errorf("%s stands %d times, want %d", c.pattern, many, c.many)
		}
		heldClass(t, pat(t, c.pattern), p)
	}
}

// TestWithoutHoles: the empty list, at the one class that has it.
func TestWithoutHoles(t *testing.T) {
	p := told(t, "x + x", "x = x + 0", "7 = -(x + x)")
	for s, want := range map[string]int{"0": 0, "7": 1, "x": 2, "x + 0": 2, "x + 0 + 0": 2, "x + x": 3, "x + 0 + x": 3, "-(x + (x + 0))": 1, "0 + x": none, "y": none, "-7": none, "-x": none} {
		for c := range p.Classes {
			lists := "[]"
			if c == want {
				lists = "[[]]"
			}
			finds(t, pat(t, s), p, c, lists)
		}
		var all []api.Match
		if want != none {
			all = []api.Match{{Class: want}}
		}
		findsAll(t, pat(t, s), p, all)
		located(t, pat(t, s), p, nil, want)
		located(t, pat(t, s), p, []int{}, want)
		for _, holes := range [][]int{{0}, {-1}, {want}, {0, 0}} {
			astray(t, s, pat(t, s), p, holes, api.ErrArg)
		}
	}
}

// TestOneHoleAlone: it stands at its own class.
func TestOneHoleAlone(t *testing.T) {
	p := base()
	var all []api.Match
	for c := range p.Classes {
		finds(t, pat(t, "@a"), p, c, fmt.Sprint([][]int{{c}}))
		located(t, pat(t, "@a"), p, []int{c}, c)
		all = append(all, api.Match{Class: c, Holes: []int{c}})
	}
	findsAll(t, pat(t, "@a"), p, all)
}

func TestWithoutClasses(t *testing.T) {
	for _, p := range []api.Picture{{}, {Classes: []api.Class{}, Roots: []int{}}} {
		for _, s := range []string{"@a", "x", "0", "@a + @b", "-@a"} {
			findsAll(t, pat(t, s), p, nil)
			for _, c := range []int{0, -1, 1} {
				fails(t, "no classes", pat(t, s), p, c, api.ErrArg, api.OK)
			}
		}
		located(t, pat(t, "x"), p, nil, none)
		located(t, pat(t, "x + 0"), p, nil, none)
		astray(t, "no classes", pat(t, "@a"), p, []int{0}, api.ErrArg)
		astray(t, "no classes", pat(t, "@a"), p, nil, api.ErrArg)
		astray(t, "no classes", pat(t, "x"), p, []int{0}, api.ErrArg)
	}
}

// TestLeaves: Op, N and Name all have to be the node's.
func TestLeaves(t *testing.T) {
	p := pic(class(lit(-1)), class(lit(0), lit(4), vari("a")), class(vari("b"), vari("é")), class(vari("ee")), sized(2, do(api.OpNeg, 2), do(api.OpNot, 1)))
	for _, c := range []struct {
		n    api.Node
		home int
	}{
		{lit(-1), 0}, {lit(0), 1}, {lit(4), 1}, {lit(1), none}, {lit(math.MinInt64), none}, {lit(math.MaxInt64), none},
		{vari("a"), 1}, {vari("b"), 2}, {vari("é"), 2}, {vari("ee"), 3}, {vari("e"), none}, {vari("A"), none},
	} {
		held(t, []api.Node{c.n}, p)
		located(t, []api.Node{c.n}, p, nil, c.home)
	}
	for _, c := range []struct {
		op, part, home int
	}{{api.OpNeg, 2, 4}, {api.OpNot, 1, 4}, {api.OpNeg, 1, none}, {api.OpNot, 2, none}} {
		located(t, []api.Node{hole("a"), do(c.op, 0)}, p, []int{c.part}, c.home)
	}
	held(t, []api.Node{hole("a"), do(api.OpNeg, 0)}, p)
	held(t, []api.Node{vari("a"), do(api.OpNot, 0)}, p)
	held(t, []api.Node{vari("b"), do(api.OpNot, 0)}, p)
}

// TestNumbersOfHoles: by the order in which their names first stand, whatever the names are.
func TestNumbersOfHoles(t *testing.T) {
	p := told(t, "(u ? v : w) - (x * y)")
	root := p.Roots[0]
	// The classes are numbered in the order of the names.
	for s, want := range map[string][]int{
		"(@a ? @b : @c) - (@d * @e)": {0, 1, 2, 3, 4},
		"(@e ? @d : @c) - (@b * @a)": {0, 1, 2, 3, 4},
		"(@x ? @y : @u) - (@v * @w)": {0, 1, 2, 3, 4},
		"(@a ? @b : @c) - @d":        {0, 1, 2, 5},
		"@b - @a":                    {6, 5},
		"@b - (@a * @c)":             {6, 3, 4},
		"(u ? @b : w) - (@a * y)":    {1, 3},
	} {
		finds(t, pat(t, s), p, root, fmt.Sprint([][]int{want}))
		findsAll(t, pat(t, s), p, []api.Match{{Class: root, Holes: want}})
		located(t, pat(t, s), p, want, root)
		held(t, pat(t, s), p)
		slices.Reverse(want)
		if len(want) > 1 {
			located(t, pat(t, s), p, want, none)
		}
	}
}

// TestSeveralNodes: all that fit are found, and no others, in the order of the holes' numbers.
func TestSeveralNodes(t *testing.T) {
	p := rich(3)
	for s, want := range map[string]string{
		"@a + @b":   "[[0 0] [0 1] [0 2] [1 0] [1 1] [1 2] [2 0] [2 1] [2 2]]",
		"@b + @a":   "[[0 0] [0 1] [0 2] [1 0] [1 1] [1 2] [2 0] [2 1] [2 2]]",
		"@a + @a":   "[[0] [1] [2]]",
		"xab + @a":  "[[0] [1] [2]]",
		"@a + xac":  "[[0] [1] [2]]",
		"@a + xad":  "[]",
		"xaa + xab": "[[]]",
		"@a":        "[[3]]",
		"@a * @b":   "[]",
	} {
		finds(t, pat(t, s), p, 3, want)
		held(t, pat(t, s), p)
		heldClass(t, pat(t, s), p)
	}
	// Numbers of several digits stand by their numbers.
	many := rich(12)
	var left, both [][]int
	for c := range 12 {
		left = append(left, []int{c})
		for d := range 12 {
			both = append(both, []int{c, d})
		}
	}
	finds(t, pat(t, "@a + xal"), many, 12, fmt.Sprint(left))
	finds(t, pat(t, "xac + @a"), many, 12, fmt.Sprint(left))
	finds(t, pat(t, "@a + @b"), many, 12, fmt.Sprint(both))
	held(t, pat(t, "@a + @b"), many)
}

// TestOrderOfMatches: the classes rise, whatever is found first, and the lists of each stand in order.
func TestOrderOfMatches(t *testing.T) {
	p := sheets(12, 12)
	var want []api.Match
	for c := range 12 {
		for a := range 12 {
			want = append(want, api.Match{Class: 12 + c, Holes: []int{c, a}})
		}
	}
	findsAll(t, pat(t, "@a + @b"), p, want)
	p = told(t, "b + a", "a + b", "(b + a) + a", "a + (a + b) = b", "(a + b) + (b + a)")
	held(t, pat(t, "@a + @b"), p)
	held(t, pat(t, "@a + (@b + @c)"), p)
	held(t, pat(t, "(@c + @b) + @a"), p)
}

// TestCycles: classes that are parts of themselves.
func TestCycles(t *testing.T) {
	p := pic(class(lit(0)), class(vari("x"), do(api.OpAdd, 1, 0)), sized(3, do(api.OpAdd, 1, 1)))
	for _, c := range []struct {
		pattern string
		want    [3]string
	}{
		{"@a + @b + @c + @d + @e + @f", [3]string{"[]", "[[1 0 0 0 0 0]]", "[[1 0 0 0 0 1]]"}},
		{"@a + @b + @b + @b + @b + @b + @b + @b", [3]string{"[]", "[[1 0]]", "[]"}},
		{"@a + (@b + @c)", [3]string{"[]", "[]", "[[1 1 0]]"}},
		{"@a + (@a + @c)", [3]string{"[]", "[]", "[[1 0]]"}},
		{"@a + (@b + (@c + @d))", [3]string{"[]", "[]", "[]"}},
		{"x + 0 + 0 + 0", [3]string{"[]", "[[]]", "[]"}},
		{"(@a + @b) + (@a + @b)", [3]string{"[]", "[]", "[[1 0]]"}},
		{"@a + @b + (@c + @d)", [3]string{"[]", "[]", "[[1 0 1 0]]"}},
	} {
		for class, want := range c.want {
			finds(t, pat(t, c.pattern), p, class, want)
		}
	}
	held(t, pat(t, "(@a + @b) + (@a + @b)"), p)
	twice := pic(class(vari("x"), do(api.OpNeg, 1)), class(vari("y"), do(api.OpNeg, 0), do(api.OpAdd, 0, 0), do(api.OpAdd, 1, 0)))
	for _, s := range []string{"-@a", "--@a", strings.Repeat("-", 15) + "@a", strings.Repeat("-", 14) + "@a", "-@a + @a", "--@a + @b", "-(@a + @b)", "-(@a + @b) + @a", "@b + @a + -@b"} {
		held(t, pat(t, s), twice)
		heldClass(t, pat(t, s), twice)
	}
}

// TestEveryOperator: each is one of its own.
func TestEveryOperator(t *testing.T) {
	names := []string{"a", "b", "c"}
	p := pic(class(vari("a")), class(vari("b")), class(vari("c")))
	for op := api.OpNeg; op <= api.OpIf; op++ {
		p.Classes = append(p.Classes, sized(1+arities[op], do(op, []int{0, 1, 2}[:arities[op]]...)))
	}
	for op := api.OpNeg; op <= api.OpIf; op++ {
		var list []api.Node
		n := do(op)
		for i, name := range names[:arities[op]] {
			list = append(list, hole(name))
			n.Kids = append(n.Kids, i)
		}
		holes := []int{0, 1, 2}[:arities[op]]
		home := op // The first operator with parts has number 3, and the first class behind the leaves, too.
		findsAll(t, append(list, n), p, []api.Match{{Class: home, Holes: holes}})
		located(t, append(list, n), p, holes, home)
		held(t, append(list, n), p)
	}
}

// TestLargestPatterns: of MaxPattern nodes, and with MaxHoles holes.
func TestLargestPatterns(t *testing.T) {
	if api.MaxPattern != 16 || api.MaxHoles != 6 {
		t.Fatal("MaxPattern, MaxHoles")
	}
	p := told(t, "---------------x", "x", "---x = x + x", "a+b+c+d+e+f+a+b", "a+(b+(c+(d+(e+(f+(a+b))))))", "-(a+b+c+d+e+f+a+b)", "(a?b:c)?(d?e:f):(a?b:c)")
	at := func(s string) int {
		c, bad := picture.Class(p, read(t, s))
		if bad != api.OK {
			t.Fatalf("Class(%s): %d", s, bad)
		}
		return c
	}
	six := []int{at("a"), at("b"), at("c"), at("d"), at("e"), at("f")}
	for _, c := range []struct {
		pattern, at string
		holes       []int
	}{
		{strings.Repeat("-", 15) + "@a", "---------------x", []int{at("x")}},
		{strings.Repeat("-", 15) + "x", "---------------x", []int{}},
		{"@a+@b+@c+@d+@e+@f+@a+@b", "a+b+c+d+e+f+a+b", six},
		{"@f+@e+@d+@c+@b+@a+@f+@e", "a+b+c+d+e+f+a+b", six},
		{"@a+@b+@c+@d+@e+@f+@b+@a", "a+b+c+d+e+f+a+b", nil},
		{"@a+(@b+(@c+(@d+(@e+(@f+(@a+@b))))))", "a+(b+(c+(d+(e+(f+(a+b))))))", six},
		{"@a+(@b+(@c+(@d+(@e+(@f+(@a+@a))))))", "a+(b+(c+(d+(e+(f+(a+b))))))", nil},
		{"-(@a+@b+@c+@d+@e+@f+@a+@b)", "-(a+b+c+d+e+f+a+b)", six},
		{"-(a+b+c+d+e+f+a+b)", "-(a+b+c+d+e+f+a+b)", []int{}},
		{"-(a+b+c+d+e+f+a+a)", "-(a+b+c+d+e+f+a+b)", nil},
		{"(@a?@b:@c)?(@d?@e:@f):(@a?@b:@c)", "(a?b:c)?(d?e:f):(a?b:c)", six},
		{"(@a?@b:@c)?(@d?@e:@f):(@a?@c:@b)", "(a?b:c)?(d?e:f):(a?b:c)", nil},
	} {
		want, matches, home := "[]", []api.Match(nil), at(c.at)
		if c.holes != nil {
			want, matches = fmt.Sprint([][]int{c.holes}), []api.Match{{Class: home, Holes: c.holes}}
			located(t, pat(t, c.pattern), p, c.holes, home)
		}
		finds(t, pat(t, c.pattern), p, home, want)
		if !strings.HasPrefix(c.pattern, "--") {
			findsAll(t, pat(t, c.pattern), p, matches)
		}
	}
	located(t, pat(t, "@a+@b+@c+@d+@e+@f+@b+@a"), p, six, none)
}

// TestChance: random patterns in random pictures, cycles among them, against the second reckoning.
func TestChance(t *testing.T) {
	r := rand.New(rand.NewSource(1601))
	many, asked, nowhere := 0, 0, 0
	for asked < 3000 {
		p := chance(t, r, 3, r.Intn(6))
		if len(p.Classes) > 14 {
			continue
		}
		asked++
		found := held(t, chancePattern(r, 4, 1+r.Intn(3)), p)
		many += found
		if found == 0 {
			nowhere++
		}
	}
	if many < 6000 || nowhere < 300 || nowhere > 2500 {
		t.Errorf("patterns stand %d times, %d of them nowhere", many, nowhere)
	}
}

// TestManyHoles: patterns of up to MaxPattern nodes and MaxHoles holes, each way to stand followed by itself.
func TestManyHoles(t *testing.T) {
	r := rand.New(rand.NewSource(1606))
	asked, nowhere, large, longest := 0, 0, 0, 0
	for asked < 2000 {
		p := crowded(t, r, 5+r.Intn(60))
		if r.Intn(2) == 0 {
			p = dense(r, 2+r.Intn(9), 1+r.Intn(5), 10+r.Intn(300))
		}
		with := chanceStanding(r, p, r.Intn(len(p.Classes)))
		if len(with) < 5 {
			continue
		}
		// Holes that are changed about stand elsewhere, or nowhere.
		if n := &with[r.Intn(len(with))]; n.Op == api.OpHole {
			n.Name = namesOf(with)[r.Intn(len(namesOf(with)))]
		}
		asked++
		var all []api.Match
		whole := true
		for c := range p.Classes {
			want, ok := followed(with, p, c)
			if !ok {
				whole = false
				continue
			}
			for _, holes := range want {
				all = append(all, api.Match{Class: c, Holes: holes})
			}
			if len(want) > api.MaxFound {
				fails(t, "too many", with, p, c, api.ErrLarge, api.ErrLarge)
				continue
			}
			longest = max(longest, len(want))
			finds(t, with, p, c, written(want))
		}
		switch {
		case len(all) > api.MaxFound:
			large++
			fails(t, "too many", with, p, -1, api.ErrArg, api.ErrLarge)
		case whole:
			findsAll(t, with, p, all)
			if len(all) == 0 {
				nowhere++
			}
		}
	}
	if nowhere < 100 || nowhere > 1500 || large < 3 || longest < 2000 {
		t.Errorf("%d nowhere, %d too many, %d lists at one class", nowhere, large, longest)
	}
}

// TestTermsOfClasses: what a class represents, and a pattern fits, is found at that class, without the classes' nodes being looked at.
func TestTermsOfClasses(t *testing.T) {
	r := rand.New(rand.NewSource(1602))
	many := 0
	for range 600 {
		p := chance(t, r, 3, r.Intn(6))
		with := chancePattern(r, 3, 1+r.Intn(3))
		for c := range p.Classes {
			found, bad := match.At(with, p, c)
			terms, worse := picture.Terms(p, c, 5)
			if bad != api.OK || worse != api.OK {
				t.Fatal(bad, worse)
			}
			for e := range terms {
				parts, bad := pattern.Fits(with, e)
				if bad != api.OK {
					continue
				}
				var holes []int
				for _, part := range parts {
					home, _ := picture.Class(p, part)
					holes = append(holes, home)
				}
				many++
				if !slices.ContainsFunc(found, func(l []int) bool { return slices.Equal(l, holes) }) {
					t.Fatalf("%v stands with %v at %d of %s: %v", with, holes, c, text(p), found)
				}
				located(t, with, p, holes, c)
			}
		}
	}
	if many < 2000 {
		t.Errorf("only %d", many)
	}
}

// TestFilledIsRepresented: what follows. A pattern filled with expressions of the holes' classes is represented by the class at which it stands.
func TestFilledIsRepresented(t *testing.T) {
	r := rand.New(rand.NewSource(1603))
	many := 0
	for range 600 {
		p := chance(t, r, 3, r.Intn(6))
		terms := make([][][]api.Node, len(p.Classes))
		for c := range p.Classes {
			it, bad := picture.Terms(p, c, 4)
			if bad != api.OK {
				t.Fatal(bad)
			}
			for e := range it {
				terms[c] = append(terms[c], e)
			}
			if least, bad := picture.Least(p, c); bad == api.OK {
				terms[c] = append(terms[c], least)
			}
		}
		with := chancePattern(r, 3, 1+r.Intn(3))
		found, bad := match.Find(with, p)
		if bad != api.OK {
			t.Fatal(bad)
		}
		for _, m := range found {
			var parts [][]api.Node
			for _, c := range m.Holes {
				parts = append(parts, terms[c][r.Intn(len(terms[c]))])
			}
			e, bad := pattern.Fill(with, parts)
			if bad == api.ErrLarge {
				continue
			}
			many++
			if c, worse := picture.Class(p, e); bad != api.OK || c != m.Class || worse != api.OK {
				t.Fatalf("%v filled with %v is of class %d, %d of %s, want %d", with, parts, c, worse, text(p), m.Class)
			}
		}
	}
	if many < 2000 {
		t.Errorf("only %d", many)
	}
}

// P16.3

// TestClassChance: all lists of holes, against the second reckoning.
func TestClassChance(t *testing.T) {
	r := rand.New(rand.NewSource(1604))
	for asked := 0; asked < 800; {
		p := chance(t, r, 3, r.Intn(6))
		with := chancePattern(r, 4, 1+r.Intn(3))
		if math.Pow(float64(len(p.Classes)), float64(len(namesOf(with)))) > 200 {
			continue
		}
		asked++
		heldClass(t, with, p)
	}
}

// TestClassAndAt: Class finds the class that At and Find say, and no other.
func TestClassAndAt(t *testing.T) {
	r := rand.New(rand.NewSource(1605))
	there, away := 0, 0
	for range 1500 {
		p := chance(t, r, 3, r.Intn(8))
		with := chancePattern(r, 4, 1+r.Intn(4))
		found, bad := match.Find(with, p)
		if bad != api.OK {
			t.Fatal(bad)
		}
		said := map[string]int{}
		for _, m := range found {
			said[fmt.Sprint(m.Holes)] = m.Class
			located(t, with, p, m.Holes, m.Class)
			there++
		}
		for range 10 {
			var holes []int
			for range namesOf(with) {
				holes = append(holes, r.Intn(len(p.Classes)))
			}
			want, is := said[fmt.Sprint(holes)]
			if !is {
				want = none
				away++
			}
			located(t, with, p, holes, want)
		}
	}
	if there < 3000 || away < 3000 {
		t.Errorf("%d and %d", there, away)
	}
}

// Errors.

// TestNumbersOfClasses: which numbers are no class's.
func TestNumbersOfClasses(t *testing.T) {
	p := base()
	last := len(p.Classes) - 1
	for _, c := range []int{-1, last + 1, last + 2, -last, math.MinInt, math.MaxInt, 1 << 16, 1 << 32, 1<<16 + 1, 1<<32 + 1, -1 << 16} {
		for _, s := range []string{"@a", "0", "u", "@a + @a", "-@a"} {
			fails(t, fmt.Sprint(s, " at ", c), pat(t, s), p, c, api.ErrArg, api.OK)
		}
		for _, holes := range [][]int{{c, 0}, {0, c}, {c, c}} {
			astray(t, "holes", pat(t, "@a + @b"), p, holes, api.ErrArg)
		}
		astray(t, "a hole", pat(t, "@a"), p, []int{c}, api.ErrArg)
		astray(t, "a hole where none is", pat(t, "0"), p, []int{c}, api.ErrArg)
	}
	for _, c := range []int{0, last} {
		fails(t, "a class", pat(t, "@a"), p, c, api.OK, api.OK)
		located(t, pat(t, "@a"), p, []int{c}, c)
	}
}

// TestNumbersOfHolesGiven: too few and too many are ErrArg, also where the pattern stands nowhere.
func TestNumbersOfHolesGiven(t *testing.T) {
	p := rich(3)
	for s, many := range map[string]int{"xaa": 0, "u": 0, "xaa + xab": 0, "@a": 1, "@a + @a": 1, "-@a": 1, "@a + @b": 2, "@a * @b": 2, "(@a + @b) * (@c + @a)": 3, "@a ? @b : (@c ? @d : (@e ? @f : @a))": 6} {
		for given := range 9 {
			holes := make([]int, given)
			c, bad := match.Class(pat(t, s), p, holes)
			if (bad == api.ErrArg) != (given != many) || bad != api.OK && c != 0 {
				t.Errorf("Class(%s) of %d holes: %d, %d", s, given, c, bad)
			}
		}
	}
	astray(t, "a million holes", pat(t, "@a"), p, make([]int, 1<<20), api.ErrArg)
}

// TestWhichError: ErrForm ahead of ErrArg, and that ahead of ErrLarge and ErrNone.
func TestWhichError(t *testing.T) {
	much := rich(66)
	bad := rich(66)
	bad.Roots = []int{-1}
	sum, two := pat(t, "@a + @b"), []api.Node{hole("a"), hole("b")}
	for _, c := range []int{0, 66, 67, -1} {
		fails(t, "no pattern, no picture", two, bad, c, api.ErrForm, api.ErrForm)
		fails(t, "no pattern", two, much, c, api.ErrForm, api.ErrForm)
		fails(t, "no picture", sum, bad, c, api.ErrForm, api.ErrForm)
	}
	fails(t, "no class, too many", sum, much, 67, api.ErrArg, api.ErrLarge)
	fails(t, "too many", sum, much, 66, api.ErrLarge, api.ErrLarge)
	fails(t, "too many elsewhere", sum, much, 65, api.OK, api.ErrLarge)
	for _, holes := range [][]int{nil, {0}, {0, 0}, {1, 66}, {0, 67}, {-1, 0}, {0, 0, 0}} {
		astray(t, "no pattern, no picture", two, bad, holes, api.ErrForm)
		astray(t, "no pattern", two, much, holes, api.ErrForm)
		astray(t, "no picture", sum, bad, holes, api.ErrForm)
	}
	// The first part stands nowhere, and a later hole is none.
	astray(t, "none, and no class", pat(t, "-@a + @b"), much, []int{0, 67}, api.ErrArg)
	astray(t, "none, and too few", pat(t, "-@a + @b"), much, []int{0}, api.ErrArg)
	astray(t, "none", pat(t, "-@a + @b"), much, []int{0, 66}, api.ErrNone)
}

// unsound is patterns that are not.
func unsound() map[string][]api.Node {
	h, one := hole("h"), lit(1)
	seven := []api.Node{hole("a"), hole("b"), do(5, 0, 1), hole("c"), do(5, 2, 3), hole("d"), do(5, 4, 5), hole("e"), do(5, 6, 7), hole("f"), do(5, 8, 9), hole("g"), do(5, 10, 11)}
	long := []api.Node{h}
	for i := range 16 {
		long = append(long, do(api.OpNeg, i))
	}
	return map[string][]api.Node{
		"nil":                       nil,
		"no nodes":                  {},
		"op 0":                      {{}},
		"op 19":                     {{Op: 19, Name: "a"}},
		"op far below":              {{Op: math.MinInt}},
		"a hole without a name":     {{Op: api.OpHole}},
		"a hole with N":             {{Op: api.OpHole, Name: "a", N: 1}},
		"a hole with a part":        {one, {Op: api.OpHole, Name: "a", Kids: []int{0}}},
		"a hole with a bad name":    {{Op: api.OpHole, Name: "3"}},
		"a variable without a name": {{Op: api.OpVar}},
		"a literal with a name":     {{Op: api.OpLit, Name: "a"}},
		"an operator with N":        {h, {Op: api.OpNeg, N: 1, Kids: []int{0}}},
		"add of one":                {h, do(api.OpAdd, 0)},
		"add of none":               {do(api.OpAdd)},
		"add of three":              {h, h, h, do(api.OpAdd, 0, 1, 2)},
		"parts about":               {h, one, do(api.OpAdd, 1, 0)},
		"one part twice":            {h, do(api.OpAdd, 0, 0)},
		"itself":                    {do(api.OpNeg, 0)},
		"part -1":                   {do(api.OpNeg, -1)},
		"a part behind":             {do(api.OpNeg, 1), h},
		"a part far above":          {h, do(api.OpNeg, math.MaxInt)},
		"a part far below":          {h, do(api.OpNeg, math.MinInt)},
		"two wholes":                {h, h},
		"a node that is no part":    {one, h, do(api.OpNeg, 1)},
		"seven holes":               seven,
		"17 nodes":                  long,
		"a million nodes":           make([]api.Node, 1<<20),
	}
}

func TestUnsoundPatterns(t *testing.T) {
	for what, with := range unsound() {
		for _, p := range []api.Picture{base(), {}, {Roots: []int{0}}} {
			for _, c := range []int{0, 3, -1, 99} {
				fails(t, what, with, p, c, api.ErrForm, api.ErrForm)
			}
			for _, holes := range [][]int{nil, {0}, {-1}, {0, 0}} {
				astray(t, what, with, p, holes, api.ErrForm)
			}
		}
	}
	fails(t, "six holes", unsound()["seven holes"][:11], base(), 0, api.OK, api.OK)
	fails(t, "16 nodes", unsound()["17 nodes"][:16], base(), 0, api.OK, api.OK)
}

func TestUnsoundPictures(t *testing.T) {
	refused := func(what string, p api.Picture) {
		if picture.Check(p) != api.ErrForm {
			t.Fatalf("%s: the picture is sound", what)
		}
		for _, with := range [][]api.Node{pat(t, "@a"), pat(t, "@a + @b"), pat(t, "0"), nil} {
			for _, c := range []int{0, 3, -1, 99} {
				fails(t, what, with, p, c, api.ErrForm, api.ErrForm)
			}
			for _, holes := range [][]int{nil, {0}, {0, 0}, {-1}} {
				astray(t, what, with, p, holes, api.ErrForm)
			}
		}
	}
	for what, spoil := range spoils() {
		p := base()
		spoil(&p)
		refused(what, p)
	}
	refused("a root of nothing", api.Picture{Roots: []int{0}})
	refused("a class of nothing", pic(api.Class{}))
	refused("a million classes", api.Picture{Classes: make([]api.Class, 1<<20)})
}

// Limits.

// rich is a class of all sums of so many variables, behind those.
func rich(many int) api.Picture {
	var p api.Picture
	var sums []api.Node
	for a := range many {
		p.Classes = append(p.Classes, class(vari(fmt.Sprintf("x%c%c", 'a'+a/26, 'a'+a%26))))
		for b := range many {
			sums = append(sums, do(api.OpAdd, a, b))
		}
	}
	p.Classes = append(p.Classes, sized(3, sums...))
	return p
}

// sheets is so many literals, and behind them so many classes of sums of one of them with some others.
func sheets(many, sums int) api.Picture {
	var p api.Picture
	for a := range many {
		p.Classes = append(p.Classes, class(lit(int64(a))))
	}
	for a := range many {
		var nodes []api.Node
		for b := range sums {
			nodes = append(nodes, do(api.OpAdd, a, b))
		}
		p.Classes = append(p.Classes, sized(3, nodes...))
	}
	return p
}

// TestMaxFoundAtOneClass: as many lists as there may be, and one more.
func TestMaxFoundAtOneClass(t *testing.T) {
	if api.MaxFound != 4096 {
		t.Fatal("MaxFound")
	}
	p := rich(64)
	var lists [][]int
	var all []api.Match
	for a := range 64 {
		for b := range 64 {
			lists = append(lists, []int{a, b})
			all = append(all, api.Match{Class: 64, Holes: []int{a, b}})
		}
	}
	finds(t, pat(t, "@a + @b"), p, 64, fmt.Sprint(lists))
	findsAll(t, pat(t, "@a + @b"), p, all)
	finds(t, pat(t, "@a + @b"), p, 63, "[]")
	p.Classes[64].Nodes = append(p.Classes[64].Nodes, do(api.OpMul, 0, 0))
	finds(t, pat(t, "@a + @b"), p, 64, fmt.Sprint(lists))
	// One more.
	more := rich(64)
	sums := &more.Classes[64].Nodes
	*sums = slices.Insert(*sums, 64, do(api.OpAdd, 0, 64))
	fails(t, "4097 lists", pat(t, "@a + @b"), more, 64, api.ErrLarge, api.ErrLarge)
	fails(t, "4097 lists elsewhere", pat(t, "@a + @b"), more, 0, api.OK, api.ErrLarge)
	var each [][]int
	for a := range 65 {
		each = append(each, []int{a})
	}
	finds(t, pat(t, "xaa + @a"), more, 64, fmt.Sprint(each))
	finds(t, pat(t, "@a + @a"), more, 64, fmt.Sprint(each[:64]))
	located(t, pat(t, "@a + @b"), more, []int{0, 64}, 64)
	located(t, pat(t, "@a + @b"), more, []int{1, 64}, none)
	// More nodes than may be found, and few lists.
	p = rich(65)
	fails(t, "4225 lists", pat(t, "@a + @b"), p, 65, api.ErrLarge, api.ErrLarge)
	finds(t, pat(t, "@a + @a"), p, 65, fmt.Sprint(each))
	finds(t, pat(t, "@a"), p, 65, "[[65]]")
	finds(t, pat(t, "xab + xac"), p, 65, "[[]]")
}

// TestMaxFoundOfSixHoles: 16 to the third is MaxFound.
func TestMaxFoundOfSixHoles(t *testing.T) {
	six := pat(t, "@a + @b ? @c + @d : @e + @f")
	p := rich(4)
	p.Classes = append(p.Classes, sized(10, do(api.OpIf, 4, 4, 4)))
	found, bad := match.At(six, p, 5)
	if len(found) != api.MaxFound || bad != api.OK || !slices.IsSortedFunc(found, slices.Compare) || len(slices.CompactFunc(slices.Clone(found), slices.Equal)) != api.MaxFound {
		t.Errorf("%d lists, %d", len(found), bad)
	}
	all, bad := match.Find(six, p)
	same := slices.EqualFunc(all, found, func(m api.Match, holes []int) bool {
		return m.Rule == 0 && m.Class == 5 && slices.Equal(m.Holes, holes)
	})
	if !same || bad != api.OK {
		t.Errorf("%d matches, %d", len(all), bad)
	}
	for _, i := range []int{0, 1, 4095, 2048, 77} {
		located(t, six, p, found[i], 5)
	}
	// One more, at this class, and then at another.
	p.Classes = slices.Insert(p.Classes, 5, sized(4, do(api.OpNeg, 4)), sized(5, do(api.OpAdd, 0, 4)))
	p.Classes[7].Nodes = append(p.Classes[7].Nodes, do(api.OpIf, 6, 6, 6))
	fails(t, "4097 lists", six, p, 7, api.ErrLarge, api.ErrLarge)
	p.Classes[7].Nodes = p.Classes[7].Nodes[:1]
	fails(t, "4096 lists", six, p, 7, api.OK, api.OK)
	p.Classes = append(p.Classes, sized(16, do(api.OpIf, 6, 6, 6)))
	fails(t, "4096 lists, and one more", six, p, 7, api.OK, api.ErrLarge)
	finds(t, six, p, 8, "[[0 4 0 4 0 4]]")
}

// TestMaxFoundInAllClasses: as many matches as there may be, and one more, where no class alone has too many.
func TestMaxFoundInAllClasses(t *testing.T) {
	p := sheets(64, 64)
	var want []api.Match
	for c := range 64 {
		for a := range 64 {
			want = append(want, api.Match{Class: 64 + c, Holes: []int{c, a}})
		}
	}
	findsAll(t, pat(t, "@a + @b"), p, want)
	last := &p.Classes[127].Nodes
	*last = append(*last, do(api.OpAdd, 63, 64))
	fails(t, "one more in the last class", pat(t, "@a + @b"), p, 127, api.OK, api.ErrLarge)
	*last = (*last)[:64]
	first := &p.Classes[64].Nodes
	*first = append(*first, do(api.OpAdd, 0, 127))
	fails(t, "one more in the first class", pat(t, "@a + @b"), p, 64, api.OK, api.ErrLarge)
	*first = append((*first)[:63:63], do(api.OpAdd, 0, 127))
	fails(t, "another in its place", pat(t, "@a + @b"), p, 64, api.OK, api.OK)
	// What does not fit does not count.
	*first = append(*first, do(api.OpMul, 0, 0), do(api.OpMul, 0, 1))
	fails(t, "other operators", pat(t, "@a + @b"), p, 64, api.OK, api.OK)
	fails(t, "65 sums a class", pat(t, "@a + @b"), sheets(65, 65), 65, api.OK, api.ErrLarge)
	fails(t, "65 sums a class, one hole", pat(t, "@a + @a"), sheets(65, 65), 65, api.OK, api.OK)
}

// line is a variable, and behind it classes of one negation each.
func line(many int) api.Picture {
	p := pic(class(vari("x")))
	for i := 1; i < many; i++ {
		p.Classes = append(p.Classes, sized(1+i, do(api.OpNeg, i-1)))
	}
	return p
}

// TestMaxClasses: a pattern that stands at all classes, and ones that stand at nearly all.
func TestMaxClasses(t *testing.T) {
	p := line(api.MaxClasses)
	for up, s := range []string{"@a", "-@a", "--@a", strings.Repeat("-", 15) + "@a"} {
		if up == 3 {
			up = 15
		}
		var want []api.Match
		for c := range api.MaxClasses - up {
			want = append(want, api.Match{Class: c + up, Holes: []int{c}})
		}
		findsAll(t, pat(t, s), p, want)
		finds(t, pat(t, s), p, api.MaxClasses-1, fmt.Sprint([][]int{{api.MaxClasses - 1 - up}}))
		located(t, pat(t, s), p, []int{api.MaxClasses - 1 - up}, api.MaxClasses-1)
	}
	findsAll(t, pat(t, strings.Repeat("-", 15)+"x"), p, []api.Match{{Class: 15}})
	findsAll(t, pat(t, strings.Repeat("-", 15)+"y"), p, nil)
	fails(t, "no class", pat(t, "@a"), p, api.MaxClasses, api.ErrArg, api.OK)
	astray(t, "no class", pat(t, "@a"), p, []int{api.MaxClasses}, api.ErrArg)
}
