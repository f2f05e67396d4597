package machine_test

import (
	"fmt"
	"math"
	"math/rand"
	"slices"
	"strings"
	"testing"

	"sorrel/api"
	"sorrel/graph"
	"sorrel/machine"
	"sorrel/parse"
	"sorrel/pattern"
)

// pat is the pattern that a text writes.
func pat(t *testing.T, s string) []api.Node {
	t.Helper()
	p, at, bad := parse.Pattern(s)
	if bad != api.OK {
		t.Fatalf("Pattern(%q): %d at %d", s, bad, at)
	}
	return p
}

// read is the expression that a text writes.
func read(t *testing.T, s string) []api.Node {
	t.Helper()
	e, at, bad := parse.Parse(s)
	if bad != api.OK {
		t.Fatalf("Parse(%q): %d at %d", s, bad, at)
	}
	return e
}

// told is the picture of expressions, each a root; = between two: they are merged.
func told(t *testing.T, lines ...string) api.Picture {
	t.Helper()
	g := graph.New()
	for _, s := range lines {
		bad := api.OK
		if a, b, merged := strings.Cut(s, " = "); merged {
			bad = g.Merge(read(t, a), read(t, b))
		} else {
			bad = g.Add(read(t, s))
		}
		if bad != api.OK {
			t.Fatalf("%q: %d", s, bad)
		}
	}
	return drawn(t, g)
}

// checks asks Check.
func checks(t *testing.T, what string, prog []api.Cmd, holes int, want api.Errno) {
	t.Helper()
	if bad := machine.Check(prog, holes); bad != want {
		t.Errorf("Check, %s, for %d: %d, want %d; %v", what, holes, bad, want, prog[:min(len(prog), 70)])
	}
	if soundFor(prog, holes) != (want == api.OK) {
		t.Fatalf("%s, for %d: the second reckoning says otherwise", what, holes)
	}
}

func sound(t *testing.T, what string, prog []api.Cmd, holes int) {
	t.Helper()
	checks(t, what, prog, holes, api.OK)
}

// refused asks Check and Run of a program that is not sound; Run also of a picture and a class that are none.
func refused(t *testing.T, what string, prog []api.Cmd, holes int) {
	t.Helper()
	checks(t, what, prog, holes, api.ErrForm)
	for _, p := range []api.Picture{base(), {}, {Roots: []int{1}}} {
		for _, class := range []int{0, 3, -1, 99} {
			if l, bad := machine.Run(prog, holes, p, class); len(l) != 0 || bad != api.ErrForm {
				t.Errorf("Run, %s, for %d: %v, %d", what, holes, l, bad)
			}
		}
	}
}

// The chapter's examples.

func TestExamples(t *testing.T) {
	p := told(t, "x + 0", "x + x")
	zero := []api.Cmd{look(0, api.OpAdd, 1), lookLit(2, 0, 3), take(1, 0)}
	twice := []api.Cmd{look(0, api.OpAdd, 1), same(1, 2), take(1, 0)}
	sound(t, "@a + 0", zero, 1)
	sound(t, "@a + @a", twice, 1)
	finds(t, zero, 1, p, 2, "[[1]]")
	finds(t, zero, 1, p, 3, "[]")
	finds(t, twice, 1, p, 3, "[[1]]")
	finds(t, twice, 1, p, 2, "[]")
	sound(t, "no commands", nil, 0)
	for c := range p.Classes {
		finds(t, nil, 0, p, c, "[[]]")
	}
	refused(t, "no commands", nil, 1)
	refused(t, "CTake 1 hole 0 alone", []api.Cmd{take(1, 0)}, 1)
}

// P15.1

// takes is a program that takes register 0 for so many holes.
func takes(holes int) []api.Cmd {
	var prog []api.Cmd
	for i := range holes {
		prog = append(prog, take(0, i))
	}
	return prog
}

func TestNumberOfHoles(t *testing.T) {
	if api.MaxHoles != 6 {
		t.Fatal("MaxHoles")
	}
	for taken := range 9 {
		for holes := -3; holes < 12; holes++ {
			if taken == holes && holes <= 6 {
				sound(t, "as many holes as are taken", takes(taken), holes)
			} else {
				refused(t, fmt.Sprint(taken, " are taken"), takes(taken), holes)
			}
		}
	}
	for _, holes := range []int{-1, math.MinInt, math.MaxInt, 1 << 40, 1 << 20, 7} {
		refused(t, "no commands", nil, holes)
		refused(t, "one command", takes(1), holes)
	}
	refused(t, "seven holes", takes(7), 7)
}

func TestTakes(t *testing.T) {
	sound(t, "in any row", []api.Cmd{take(0, 2), take(0, 0), take(0, 1)}, 3)
	sound(t, "of several registers", []api.Cmd{take(0, 1), look(0, api.OpIf, 1), take(3, 0), take(1, 3), take(3, 2)}, 4)
	refused(t, "one taken twice", []api.Cmd{take(0, 0), take(0, 0)}, 1)
	refused(t, "one taken twice, for two", []api.Cmd{take(0, 0), take(0, 0)}, 2)
	refused(t, "one taken twice, of two registers", []api.Cmd{look(0, api.OpAdd, 1), take(0, 0), take(1, 1), take(2, 0)}, 2)
	refused(t, "one taken twice, the other never", []api.Cmd{take(0, 1), take(0, 1)}, 2)
	refused(t, "the first never", []api.Cmd{take(0, 1)}, 2)
	refused(t, "the last never", []api.Cmd{take(0, 0), take(0, 1)}, 3)
	refused(t, "one in the midst never", []api.Cmd{take(0, 2), take(0, 0)}, 3)
	for _, no := range []int{-1, 2, 3, 6, math.MinInt, math.MaxInt} {
		refused(t, fmt.Sprint("hole ", no), []api.Cmd{take(0, 0), take(0, no)}, 2)
		refused(t, fmt.Sprint("hole ", no, " beside both"), []api.Cmd{take(0, 0), take(0, no), take(0, 1)}, 2)
	}
	refused(t, "a hole of none", []api.Cmd{take(0, 0)}, 0)
}

func TestRegisters(t *testing.T) {
	for op := api.OpNeg; op <= api.OpIf; op++ {
		for r := -2; r < 6; r++ {
			for _, c := range []struct {
				cmd   api.Cmd
				holes int
			}{{take(r, 0), 1}, {same(r, 0), 0}, {same(0, r), 0}, {same(r, r), 0}, {look(r, op, 1+arities[op]), 0}, {lookLit(r, 7, 1+arities[op]), 0}, {lookVar(r, "a", 1+arities[op]), 0}} {
				prog := []api.Cmd{look(0, op, 1), c.cmd}
				if r >= 0 && r <= arities[op] {
					sound(t, "a register that there is", prog, c.holes)
				} else {
					refused(t, "a register that there is not", prog, c.holes)
				}
			}
		}
	}
	for _, r := range []int{1, -1, math.MinInt, math.MaxInt, 64, 192} {
		refused(t, "a look", []api.Cmd{look(r, api.OpNeg, 1)}, 0)
		refused(t, "a look, with To as it is", []api.Cmd{look(r, api.OpNeg, r+1)}, 0)
		refused(t, "a leaf", []api.Cmd{lookLit(r, 0, 1)}, 0)
		refused(t, "a take", []api.Cmd{take(r, 0)}, 1)
		refused(t, "a same of R", []api.Cmd{same(r, 0)}, 0)
		refused(t, "a same of To", []api.Cmd{same(0, r)}, 0)
		refused(t, "a same of both", []api.Cmd{same(r, r)}, 0)
	}
	// A register is there from its look on, and not ahead of it.
	refused(t, "taken too early", []api.Cmd{take(1, 0), look(0, api.OpNeg, 1)}, 1)
	refused(t, "the same too early", []api.Cmd{same(0, 1), look(0, api.OpNeg, 1)}, 0)
	refused(t, "looked at too early", []api.Cmd{look(1, api.OpNeg, 2), look(0, api.OpNeg, 1)}, 0)
	refused(t, "of itself", []api.Cmd{look(1, api.OpNeg, 1)}, 0)
}

func TestTo(t *testing.T) {
	for op := api.OpLit; op <= api.OpIf; op++ {
		name := ""
		if op == api.OpVar {
			name = "a"
		}
		for to := -3; to < 8; to++ {
			first := []api.Cmd{{Kind: api.CClass, Op: op, Name: name, To: to}}
			later := []api.Cmd{look(0, api.OpAdd, 1), {Kind: api.CClass, R: 2, Op: op, Name: name, To: to}}
			behind := []api.Cmd{{Kind: api.CClass, Op: op, Name: name, To: 1}, look(0, api.OpNeg, to)}
			for prog, want := range map[*[]api.Cmd]int{&first: 1, &later: 3, &behind: 1 + arities[op]} {
				if to == want {
					sound(t, "To is their number", *prog, 0)
				} else {
					refused(t, "To is not their number", *prog, 0)
				}
			}
		}
		for _, to := range []int{math.MinInt, math.MaxInt, 193} {
			refused(t, "To far off", []api.Cmd{{Kind: api.CClass, Op: op, Name: name, To: to}}, 0)
		}
	}
	// No other command makes a register.
	sound(t, "behind other commands", []api.Cmd{take(0, 0), same(0, 0), look(0, api.OpNeg, 1)}, 1)
	refused(t, "counted by a take", []api.Cmd{take(0, 0), look(0, api.OpNeg, 2)}, 1)
	refused(t, "counted by a same", []api.Cmd{same(0, 0), look(0, api.OpNeg, 2)}, 0)
}

func TestNodesOfLooks(t *testing.T) {
	names := []string{"", "a", "é", "x₂", "名", "ab", "A", "3", "₂", "a b", " a", "@a", "a\xff", "\xff", "+", "a+b", strings.Repeat("é", 16), strings.Repeat("é", 17), "\x00"}
	for _, op := range []int{math.MinInt, -1, 0, 1, 2, 3, 4, 5, 6, 7, 8, 9, 10, 11, 12, 13, 14, 15, 16, 17, 18, 19, 20, math.MaxInt} {
		for _, n := range []int64{0, 1, -1, math.MinInt64, math.MaxInt64} {
			for _, name := range names {
				prog := []api.Cmd{{Kind: api.CClass, To: 1, Op: op, N: n, Name: name}}
				if mayStand(op, n, name) {
					sound(t, "a node", prog, 0)
				} else {
					refused(t, "no node", prog, 0)
				}
			}
		}
	}
}

func TestBareCommands(t *testing.T) {
	for _, c := range []api.Cmd{{Op: 1}, {Op: -1}, {Op: api.OpAdd}, {Op: api.OpHole}, {N: 1}, {N: -1}, {N: math.MinInt64}, {Name: "a"}, {Name: "\xff"}, {Op: api.OpVar, Name: "a"}, {Op: api.OpLit, N: 2}, {Op: math.MinInt}} {
		c.Kind = api.CSame
		refused(t, "a same that names a node", []api.Cmd{c}, 0)
		c.Kind = api.CTake
		refused(t, "a take that names a node", []api.Cmd{c}, 1)
		refused(t, "a later take that names a node", []api.Cmd{look(0, api.OpNeg, 1), take(0, 1), c}, 2)
	}
}

func TestKinds(t *testing.T) {
	for _, kind := range []int{0, 4, 5, -1, -2, 256 + 1, 1<<32 + 2, math.MinInt, math.MaxInt} {
		refused(t, "no kind", []api.Cmd{{Kind: kind}}, 0)
		refused(t, "no kind, for a hole", []api.Cmd{{Kind: kind}}, 1)
		refused(t, "no kind with a node", []api.Cmd{{Kind: kind, To: 1, Op: api.OpNeg}}, 0)
		refused(t, "no kind behind a take", []api.Cmd{take(0, 0), {Kind: kind}}, 1)
		refused(t, "no kind ahead of a take", []api.Cmd{{Kind: kind}, take(0, 0)}, 1)
	}
	refused(t, "a zero command", make([]api.Cmd, 1), 0)
}

func TestNumberOfCommands(t *testing.T) {
	if api.MaxPattern != 16 {
		t.Fatal("MaxPattern")
	}
	for op := api.OpLit; op <= api.OpIf; op++ {
		var prog []api.Cmd
		name := ""
		if op == api.OpVar {
			name = "a"
		}
		for i := range 66 {
			prog = append(prog, api.Cmd{Kind: api.CClass, R: i * arities[op], To: 1 + i*arities[op], Op: op, Name: name})
		}
		sound(t, "63 looks", prog[:63], 0)
		sound(t, "64 looks", prog[:64], 0)
		refused(t, "65 looks", prog[:65], 0)
		refused(t, "66 looks", prog, 0)
	}
	sames := slices.Repeat([]api.Cmd{same(0, 0)}, 64)
	sound(t, "64 of one kind", sames, 0)
	refused(t, "65 of one kind", append(slices.Clone(sames), same(0, 0)), 0)
	sound(t, "64 with six takes", append(sames[:58:58], takes(6)...), 6)
	refused(t, "65 with six takes", append(sames[:59:59], takes(6)...), 6)
	refused(t, "65 of which the last takes", append(slices.Clone(sames), take(0, 0)), 1)
	refused(t, "a million", slices.Repeat(sames, 1<<14), 0)
	refused(t, "a million of no kind", make([]api.Cmd, 1<<20), 0)
	// The last register of all.
	deep := []api.Cmd{}
	for i := range 63 {
		deep = append(deep, look(3*i, api.OpIf, 3*i+1))
	}
	sound(t, "register 189", append(deep[:63:63], take(189, 0)), 1)
	refused(t, "register 190", append(deep[:63:63], take(190, 0)), 1)
}

// TestEveryShortProgram: all programs of up to three commands of many kinds, most of them not sound.
func TestEveryShortProgram(t *testing.T) {
	some := []api.Cmd{
		look(0, api.OpNeg, 1), look(0, api.OpAdd, 1), look(0, api.OpAdd, 2), look(1, api.OpNeg, 2), look(2, api.OpIf, 3), lookLit(0, 4, 1), lookLit(1, 4, 2), lookVar(1, "a", 3), lookVar(0, "", 1), look(0, api.OpHole, 1),
		same(0, 0), same(0, 1), same(1, 2), same(2, 0), same(-1, 0), {Kind: api.CSame, N: 1},
		take(0, 0), take(1, 0), take(2, 1), take(0, 1), take(0, -1), take(-1, 0), {Kind: api.CTake, Name: "a"}, {}, {Kind: 4},
	}
	all, good := [][]api.Cmd{nil}, 0
	for from := 0; from < len(all); from++ {
		prog := all[from]
		for holes := -1; holes < 4; holes++ {
			want := api.ErrForm
			if soundFor(prog, holes) {
				want = api.OK
				good++
			}
			if bad := machine.Check(prog, holes); bad != want {
				t.Fatalf("Check(%v, %d): %d, want %d", prog, holes, bad, want)
			}
		}
		for _, c := range some {
			if len(prog) < 3 {
				all = append(all, append(slices.Clone(prog), c))
			}
		}
	}
	if good < 200 {
		t.Errorf("only %d are sound", good)
	}
}

// TestOneThingOff: sound programs of which one number is changed.
func TestOneThingOff(t *testing.T) {
	r := rand.New(rand.NewSource(1501))
	good := 0
	for range 20000 {
		p := base()
		prog, holes := chanceProgram(r, p, r.Intn(len(p.Classes)), 1+r.Intn(12))
		if !soundFor(prog, holes) || machine.Check(prog, holes) != api.OK {
			t.Fatalf("%v for %d", prog, holes)
		}
		c, by := &prog[r.Intn(len(prog))], r.Intn(5)-2
		switch r.Intn(7) {
		case 0:
			c.Kind += by
		case 1:
			c.R += by
		case 2:
			c.To += by
		case 3:
			c.Op += by
		case 4:
			c.N += int64(by)
		case 5:
			c.Name += []string{"a", "", "1", "b"}[by&3]
		case 6:
			holes += by
		}
		want := api.ErrForm
		if soundFor(prog, holes) {
			want = api.OK
			good++
		}
		if bad := machine.Check(prog, holes); bad != want {
			t.Fatalf("Check(%v, %d): %d, want %d", prog, holes, bad, want)
		}
	}
	if good < 2000 || good > 18000 {
		t.Errorf("%d are sound", good)
	}
}

// P15.3

// compiled is the program of a sound pattern, and the number of its holes.
func compiled(t *testing.T, p []api.Node) ([]api.Cmd, int) {
	t.Helper()
	names, bad := pattern.Holes(p)
	prog, worse := machine.Compile(p)
	if bad != api.OK || worse != api.OK || machine.Check(prog, len(names)) != api.OK || !soundFor(prog, len(names)) {
		t.Fatalf("Compile(%v): %d, %v for %d", p, worse, prog, len(names))
	}
	return prog, len(names)
}

// stands holds, at each class of a picture, what the program of a pattern finds against where the pattern stands.
func stands(t *testing.T, p []api.Node, in api.Picture) int {
	t.Helper()
	prog, holes := compiled(t, p)
	names, _ := pattern.Holes(p)
	many := 0
	for c, found := range standing(p, names, in) {
		finds(t, prog, holes, in, c, fmt.Sprint(inOrder(found)))
		many += len(found)
	}
	return many
}

func TestCompile(t *testing.T) {
	p := told(t, "x + 0", "x + x", "y = -x", "-(x + y) = y * y", "x ? y : 0", "7", "0 = z", "y + x", "(x + y) * (x + y)", "(x + x) * (x + y)", "0 ? 0 : 0")
	for _, c := range []struct {
		pattern string
		many    int
	}{
		// Without holes: of each that stands somewhere it is the empty list, at one class.
		{"x", 1}, {"u", 0}, {"7", 1}, {"8", 0}, {"-7", 0}, {"z + x", 0}, {"x + z", 1}, {"-x", 1}, {"x ? -x : z", 1}, {"(x + y) * (x + -x)", 1}, {"x * x", 0},
		// One alone stands at all classes.
		{"@a", len(p.Classes)},
		{"-@a", 2}, {"@a + 0", 1}, {"@a + @a", 1}, {"@a + @b", 4}, {"@b + @a", 4}, {"x + @a", 3}, {"@a + x", 2}, {"@x + x", 2}, {"@x + @x", 1},
		{"@a * @a", 2}, {"@a * @b", 3}, {"(@a + @b) * (@a + @b)", 1}, {"(@a + @b) * (@c + @d)", 2}, {"(@a + @b) * (@a + @c)", 2}, {"(@a + @b) * (@c + @b)", 1}, {"(@a + @a) * (@a + @b)", 1},
		{"@a ? @b : @c", 2}, {"@a ? @a : @a", 1}, {"@a ? @b : 0", 2}, {"@a ? @b : @b", 1}, {"@c ? -@c : @d", 1}, {"-(@a + -@a)", 1},
	} {
		if many := stands(t, pat(t, c.pattern), p); many != c.many {
			t.Errorf("%s stands %d times, want %d", c.pattern, many, c.many)
		}
	}
}

// TestNumbersOfHoles: by the order in which their names first stand, whatever the names are, and not by the order in which a program meets them.
func TestNumbersOfHoles(t *testing.T) {
	p := told(t, "(u ? v : w) - (x * y)")
	root := p.Roots[0]
	// The classes are numbered in the order of the names.
	for pattern, want := range map[string]string{
		"(@a ? @b : @c) - (@d * @e)": "[[0 1 2 3 4]]",
		"(@e ? @d : @c) - (@b * @a)": "[[0 1 2 3 4]]",
		"(@x ? @y : @u) - (@v * @w)": "[[0 1 2 3 4]]",
		"(@a ? @b : @c) - @d":        "[[0 1 2 5]]",
		"@b - @a":                    "[[6 5]]",
		"@b - (@a * @c)":             "[[6 3 4]]",
		"(u ? @b : w) - (@a * y)":    "[[1 3]]",
	} {
		prog, holes := compiled(t, pat(t, pattern))
		finds(t, prog, holes, p, root, want)
		stands(t, pat(t, pattern), p)
	}
}

// TestCompileEveryOperator: each has its own command, and as many parts as it has.
func TestCompileEveryOperator(t *testing.T) {
	g := graph.New()
	names := []string{"a", "b", "c"}
	patterns := map[int][]api.Node{}
	for op := api.OpNeg; op <= api.OpIf; op++ {
		e, h := []api.Node{}, []api.Node{}
		n := do(op)
		for i, name := range names[:arities[op]] {
			e, h = append(e, vari(name)), append(h, hole(name))
			n.Kids = append(n.Kids, i)
		}
		g.Add(append(e, n))
		patterns[op] = append(h, n)
	}
	p := drawn(t, g)
	for op, pattern := range patterns {
		if many := stands(t, pattern, p); many != 1 {
			t.Errorf("operator %d stands %d times", op, many)
		}
	}
}

// TestCompileLargest: patterns of MaxPattern nodes and with MaxHoles holes.
func TestCompileLargest(t *testing.T) {
	p := told(t, "---------------x", "x", "---x = x + x", "a+b+c+d+e+f+a+b", "a+(b+(c+(d+(e+(f+(a+b))))))", "-(a+b+c+d+e+f+a+b)", "(a?b:c)?(d?e:f):(a?b:c)")
	var fifteen []string
	for c := range p.Classes {
		prog, holes := compiled(t, pat(t, strings.Repeat("-", 15)+"@a"))
		l := must(t, prog, holes, p, c)
		fifteen = append(fifteen, fmt.Sprint(l))
	}
	if !slices.Contains(fifteen, fmt.Sprint([][]int{{at(t, p, "x")}})) {
		t.Errorf("%v", fifteen)
	}
	class := func(names ...string) string {
		var l []int
		for _, s := range names {
			l = append(l, at(t, p, s))
		}
		return fmt.Sprint([][]int{l})
	}
	six := class("a", "b", "c", "d", "e", "f")
	for _, c := range []struct{ pattern, at, want string }{
		{"@a+@b+@c+@d+@e+@f+@a+@b", "a+b+c+d+e+f+a+b", six},
		{"@f+@e+@d+@c+@b+@a+@f+@e", "a+b+c+d+e+f+a+b", six},
		{"@a+@b+@c+@d+@e+@f+@b+@a", "a+b+c+d+e+f+a+b", "[]"},
		{"@a+(@b+(@c+(@d+(@e+(@f+(@a+@b))))))", "a+(b+(c+(d+(e+(f+(a+b))))))", six},
		{"@a+(@b+(@c+(@d+(@e+(@f+(@a+@a))))))", "a+(b+(c+(d+(e+(f+(a+b))))))", "[]"},
		{"-(@a+@b+@c+@d+@e+@f+@a+@b)", "-(a+b+c+d+e+f+a+b)", six},
		{"-(a+b+c+d+e+f+a+b)", "-(a+b+c+d+e+f+a+b)", "[[]]"},
		{"-(a+b+c+d+e+f+a+a)", "-(a+b+c+d+e+f+a+b)", "[]"},
		{"(@a?@b:@c)?(@d?@e:@f):(@a?@b:@c)", "(a?b:c)?(d?e:f):(a?b:c)", six},
		{"(@a?@b:@c)?(@d?@e:@f):(@a?@c:@b)", "(a?b:c)?(d?e:f):(a?b:c)", "[]"},
	} {
		prog, holes := compiled(t, pat(t, c.pattern))
		finds(t, prog, holes, p, at(t, p, c.at), c.want)
	}
}

// TestCompileChance: random patterns in random pictures, cycles among them.
func TestCompileChance(t *testing.T) {
	r := rand.New(rand.NewSource(1502))
	many, asked := 0, 0
	for asked < 3000 {
		in := chance(t, r, 3, r.Intn(6))
		leaves := append([]api.Node{hole("a"), hole("b"), hole("a"), hole("b"), hole("c")}[r.Intn(3):], someLeaves[r.Intn(4)])
		p := chanceTree(r, leaves, 4)
		if pattern.Check(p) != api.OK || len(in.Classes) > 14 {
			continue
		}
		asked++
		many += stands(t, p, in)
	}
	if many < 3000 {
		t.Errorf("patterns stand only %d times", many)
	}
}

func TestCompileNotSound(t *testing.T) {
	kids := func(op int, k ...int) api.Node { return api.Node{Op: op, Kids: k} }
	h, one := hole("h"), lit(1)
	seven := []api.Node{hole("a"), hole("b"), kids(5, 0, 1), hole("c"), kids(5, 2, 3), hole("d"), kids(5, 4, 5), hole("e"), kids(5, 6, 7), hole("f"), kids(5, 8, 9), hole("g"), kids(5, 10, 11)}
	long := []api.Node{h}
	for i := range 16 {
		long = append(long, kids(api.OpNeg, i))
	}
	for what, p := range map[string][]api.Node{
		"nil":                       nil,
		"no nodes":                  {},
		"op 0":                      {{}},
		"op 19":                     {{Op: 19, Name: "a"}},
		"op far below":              {{Op: math.MinInt}},
		"a hole without a name":     {{Op: api.OpHole}},
		"a hole with N":             {{Op: api.OpHole, Name: "a", N: 1}},
		"a hole with a part":        {one, {Op: api.OpHole, Name: "a", Kids: []int{0}}},
		"a hole with a bad name":    {{Op: api.OpHole, Name: "3"}},
		"a variable without a name": {{Op: api.OpVar}},
		"a literal with a name":     {{Op: api.OpLit, Name: "a"}},
		"an operator with N":        {h, {Op: api.OpNeg, N: 1, Kids: []int{0}}},
		"add of one":                {h, kids(api.OpAdd, 0)},
		"add of none":               {kids(api.OpAdd)},
		"add of three":              {h, h, h, kids(api.OpAdd, 0, 1, 2)},
		"parts about":               {h, one, kids(api.OpAdd, 1, 0)},
		"one part twice":            {h, kids(api.OpAdd, 0, 0)},
		"itself":                    {kids(api.OpNeg, 0)},
		"part -1":                   {kids(api.OpNeg, -1)},
		"a part behind":             {kids(api.OpNeg, 1), h},
		"a part far above":          {h, kids(api.OpNeg, math.MaxInt)},
		"a part far below":          {h, kids(api.OpNeg, math.MinInt)},
		"two wholes":                {h, h},
		"a node that is no part":    {one, h, kids(api.OpNeg, 1)},
		"seven holes":               seven,
		"17 nodes":                  long,
		"a million nodes":           make([]api.Node, 1<<20),
	} {
		if prog, bad := machine.Compile(p); len(prog) != 0 || bad != api.ErrForm {
			t.Errorf("Compile, %s: %v, %d", what, prog, bad)
		}
	}
	compiled(t, seven[:11])
	compiled(t, long[:16])
}
