package pattern_test

import (
	"fmt"
	"math"
	"math/rand"
	"slices"
	"strings"
	"testing"

	"sorrel/api"
	"sorrel/expr"
	"sorrel/parse"
	"sorrel/pattern"
	"sorrel/show"
)

// pat is the pattern that a text writes.
func pat(t *testing.T, s string) []api.Node {
	t.Helper()
	p, at, bad := parse.Pattern(s)
	if bad != api.OK {
		t.Fatalf("Pattern(%q): %d at %d", s, bad, at)
	}
	return p
}

// read is the expression that a text writes.
func read(t *testing.T, s string) []api.Node {
	t.Helper()
	e, at, bad := parse.Parse(s)
	if bad != api.OK {
		t.Fatalf("Parse(%q): %d at %d", s, bad, at)
	}
	return e
}

// reads is the expressions of several texts, between which stands a semicolon.
func reads(t *testing.T, s string) [][]api.Node {
	t.Helper()
	var l [][]api.Node
	for s := range strings.SplitSeq(s, ";") {
		if s != "" {
			l = append(l, read(t, s))
		}
	}
	return l
}

// holds asks Check and Holes of a sound pattern.
func holds(t *testing.T, p []api.Node, names ...string) {
	t.Helper()
	if bad := pattern.Check(p); bad != api.OK {
		t.Errorf("Check(%s): %d", text(p), bad)
	}
	if l, bad := pattern.Holes(p); !slices.Equal(l, names) || bad != api.OK {
		t.Errorf("Holes(%s): %q, %d, want %q", text(p), l, bad, names)
	}
}

// refused asks all calls of what is no sound pattern.
func refused(t *testing.T, what string, p []api.Node) {
	t.Helper()
	if bad := pattern.Check(p); bad != api.ErrForm {
		t.Errorf("Check, %s: %d", what, bad)
	}
	if l, bad := pattern.Holes(p); len(l) != 0 || bad != api.ErrForm {
		t.Errorf("Holes, %s: %q, %d", what, l, bad)
	}
	one := lit(1).nodes()
	for _, with := range [][][]api.Node{nil, {}, {one}, {one, one}, {one, one, one}, {nil}, {one, nil}, {one, one, one, one, one, one, one}} {
		fills(t, what, p, with, nil, api.ErrForm)
	}
	for _, e := range [][]api.Node{one, vari("a").nodes(), p, nil, do(api.OpAdd, vari("a"), lit(1)).nodes()} {
		fits(t, what, p, e, nil, api.ErrForm)
	}
}

func fills(t *testing.T, what string, p []api.Node, with [][]api.Node, want []api.Node, err api.Errno) {
	t.Helper()
	if e, bad := pattern.Fill(p, with); text(e) != text(want) || bad != err {
		t.Errorf("Fill, %s: %s, %d, want %s, %d", what, text(e), bad, text(want), err)
	}
}

func fits(t *testing.T, what string, p, e []api.Node, want [][]api.Node, err api.Errno) {
	t.Helper()
	if l, bad := pattern.Fits(p, e); texts(l) != texts(want) || bad != err {
		t.Errorf("Fits, %s: %s, %d, want %s, %d", what, texts(l), bad, texts(want), err)
	}
}

// P14.1

func TestHoles(t *testing.T) {
	for _, c := range []struct{ pattern, names string }{
		{"a", ""},
		{"7", ""},
		{"a + 1 * -b", ""},
		{"a ? b : c", ""},
		{"@a", "a"},
		{"-@a", "a"},
		{"@a + @a", "a"},
		{"@a ? @a : @a", "a"},
		{"@a * (@a + (@a - 1))", "a"},
		{"@a + @b * @a", "a b"},
		{"@b + @a * @b", "b a"},
		{"@b + @a", "b a"},
		{"@c ? @b : @a", "c b a"},
		{"@z - (@y - (@x - (@y - @z)))", "z y x"},
		{"(@x - @y) - (@z - @x)", "x y z"},
		{"(@b + a) * (@a + b)", "b a"},
		{"@a + a", "a"},
		{"a + @a", "a"},
		{"a + @b + b", "b"},
		{"@B + @b", "B b"},
		{"@é + @e", "é e"},
		{"@ab + @a + @abc", "ab a abc"},
		{"@x₂ + @名 + @x", "x₂ 名 x"},
		{"@f - @e - @d - @c - @b - @a", "f e d c b a"},
	} {
		holds(t, pat(t, c.pattern), strings.Fields(c.names)...)
	}
}

// row is additions of leaves, one over the other.
func row(leaves ...tree) tree {
	t := leaves[0]
	for _, l := range leaves[1:] {
		t = do(api.OpAdd, t, l)
	}
	return t
}

func TestMaxHoles(t *testing.T) {
	if api.MaxHoles != 6 {
		t.Fatal("MaxHoles")
	}
	a, b, c, d, e, f, g := hole("a"), hole("b"), hole("c"), hole("d"), hole("e"), hole("f"), hole("g")
	holds(t, row(a, b, c, d, e, f).nodes(), "a", "b", "c", "d", "e", "f")
	holds(t, row(f, e, d, c, b, a).nodes(), "f", "e", "d", "c", "b", "a")
	holds(t, row(a, b, c, d, e, f, f, a).nodes(), "a", "b", "c", "d", "e", "f")
	holds(t, row(a, b, c, d, e, f, vari("g"), vari("a")).nodes(), "a", "b", "c", "d", "e", "f")
	holds(t, row(a, a, a, a, a, a, a, a).nodes(), "a")
	refused(t, "seven holes", row(a, b, c, d, e, f, g).nodes())
	refused(t, "seven holes, one twice", row(a, a, b, c, d, e, f, g).nodes())
	refused(t, "seven holes in a deep row", do(api.OpIf, a, do(api.OpIf, b, c, d), do(api.OpIf, e, f, g)).nodes())
	refused(t, "eight holes", row(a, b, c, d, e, f, g, hole("h")).nodes())
}

func TestMaxPattern(t *testing.T) {
	if api.MaxPattern != 16 {
		t.Fatal("MaxPattern")
	}
	a := hole("a")
	holds(t, long(a, 16).nodes(), "a")
	refused(t, "17 nodes over a hole", long(a, 17).nodes())
	holds(t, do(api.OpAdd, a, long(vari("a"), 14)).nodes(), "a")
	refused(t, "17 nodes, the first a hole", do(api.OpAdd, a, long(vari("a"), 15)).nodes())
	holds(t, long(vari("a"), 16).nodes())
	// A sound expression, and no sound pattern.
	refused(t, "17 nodes without a hole", long(vari("a"), 17).nodes())
	refused(t, "MaxTerm nodes without a hole", long(vari("a"), api.MaxTerm).nodes())
	refused(t, "MaxTerm+1 nodes", long(a, api.MaxTerm+1).nodes())
	// Fifteen nodes are a full row of eight leaves; a sign ahead is one more.
	leaves := []tree{a, hole("b"), hole("c"), hole("d"), hole("e"), hole("f"), a, a}
	holds(t, do(api.OpNeg, row(leaves...)).nodes(), "a", "b", "c", "d", "e", "f")
	refused(t, "17 nodes of six holes", row(append(leaves, a)...).nodes())
	many := make([]api.Node, 1<<20)
	for i := range many {
		many[i] = api.Node{Op: api.OpHole, Name: "a"}
	}
	refused(t, "a million holes", many)
	refused(t, "a million nodes of no kind", make([]api.Node, 1<<20))
}

// TestLimitsAsRead: what parse.Pattern takes is sound, and what it calls too large is not.
func TestLimitsAsRead(t *testing.T) {
	for size := 1; size <= 20; size++ {
		s := strings.Repeat("~", size-1) + "@a"
		p, _, bad := parse.Pattern(s)
		if (bad == api.OK) != (size <= 16) || (bad == api.OK) != (pattern.Check(p) == api.OK) {
			t.Errorf("%d nodes: %d, Check %d", size, bad, pattern.Check(p))
		}
	}
}

// faults is the lists that are neither sound patterns nor sound expressions, by the ways in which one can fail to be.
func faults() map[string][]api.Node {
	a, h, one := vari("a").Node, hole("h").Node, lit(1).Node
	kids := func(op int, k ...int) api.Node { return api.Node{Op: op, Kids: k} }
	list := func(l ...api.Node) []api.Node { return l }
	l := map[string][]api.Node{
		"nil":                           nil,
		"no nodes":                      {},
		"op 0":                          list(api.Node{}),
		"op -1":                         list(api.Node{Op: -1}),
		"op far below 0":                list(api.Node{Op: math.MinInt}),
		"op 19":                         list(api.Node{Op: 19}),
		"op 19 with a name":             list(api.Node{Op: 19, Name: "a"}),
		"op far above":                  list(api.Node{Op: math.MaxInt}),
		"a part with op 0":              list(api.Node{}, kids(api.OpNeg, 0)),
		"a part with op 19":             list(api.Node{Op: 19, Name: "a"}, h, kids(api.OpAdd, 0, 1)),
		"literal with a name":           list(api.Node{Op: api.OpLit, Name: "a"}),
		"literal with a part":           list(h, kids(api.OpLit, 0)),
		"variable with a part":          list(h, api.Node{Op: api.OpVar, Name: "a", Kids: []int{0}}),
		"variable with N":               list(api.Node{Op: api.OpVar, Name: "a", N: 1}),
		"variable without a name":       list(api.Node{Op: api.OpVar}),
		"variable with a number":        list(api.Node{Op: api.OpVar, Name: "3"}),
		"variable with a blank":         list(api.Node{Op: api.OpVar, Name: "a b"}),
		"variable with a sign":          list(api.Node{Op: api.OpVar, Name: "@a"}),
		"variable with a bad byte":      list(api.Node{Op: api.OpVar, Name: "a\xff"}),
		"variable of 17 characters":     list(api.Node{Op: api.OpVar, Name: strings.Repeat("é", 17)}),
		"hole with a part":              list(one, api.Node{Op: api.OpHole, Name: "a", Kids: []int{0}}),
		"hole with two parts":           list(h, one, api.Node{Op: api.OpHole, Name: "a", Kids: []int{0, 1}}),
		"hole with itself as a part":    list(api.Node{Op: api.OpHole, Name: "a", Kids: []int{0}}),
		"hole with part -1":             list(api.Node{Op: api.OpHole, Name: "a", Kids: []int{-1}}),
		"hole with parts, an operator":  list(h, one, kids(api.OpHole, 0, 1)),
		"hole with N":                   list(api.Node{Op: api.OpHole, Name: "a", N: 1}),
		"hole with N far below":         list(api.Node{Op: api.OpHole, Name: "a", N: math.MinInt64}),
		"hole without a name":           list(api.Node{Op: api.OpHole}),
		"hole with a number for a name": list(api.Node{Op: api.OpHole, Name: "3"}),
		"hole with a number and N":      list(api.Node{Op: api.OpHole, Name: "3", N: 3}),
		"hole with an index ahead":      list(api.Node{Op: api.OpHole, Name: "₂x"}),
		"hole with a blank":             list(api.Node{Op: api.OpHole, Name: "a b"}),
		"hole with a blank ahead":       list(api.Node{Op: api.OpHole, Name: " a"}),
		"hole with its sign":            list(api.Node{Op: api.OpHole, Name: "@a"}),
		"hole with a bad byte":          list(api.Node{Op: api.OpHole, Name: "a\xff"}),
		"hole of 17 characters":         list(api.Node{Op: api.OpHole, Name: strings.Repeat("é", 17)}),
		"one hole of two without":       list(h, api.Node{Op: api.OpHole}, kids(api.OpAdd, 0, 1)),
		"the first of two without":      list(api.Node{Op: api.OpHole}, h, kids(api.OpAdd, 0, 1)),
		"one hole of two with N":        list(h, api.Node{Op: api.OpHole, Name: "h", N: 1}, kids(api.OpAdd, 0, 1)),
		"operator with N":               list(h, api.Node{Op: api.OpNeg, N: 1, Kids: []int{0}}),
		"operator with a name":          list(h, api.Node{Op: api.OpNeg, Name: "a", Kids: []int{0}}),
		"neg with two parts":            list(a, h, kids(api.OpNeg, 0, 1)),
		"not with two parts":            list(a, h, kids(api.OpNot, 0, 1)),
		"add alone":                     list(kids(api.OpAdd, 0, 1)),
		"add with one part":             list(h, kids(api.OpAdd, 0)),
		"add with three parts":          list(h, a, a, kids(api.OpAdd, 0, 1, 2)),
		"if with two parts":             list(h, a, kids(api.OpIf, 0, 1)),
		"if with four parts":            list(a, h, a, a, kids(api.OpIf, 0, 1, 2, 3)),
		"parts the wrong way round":     list(h, one, kids(api.OpAdd, 1, 0)),
		"one part twice":                list(h, kids(api.OpAdd, 0, 0)),
		"the last part twice":           list(a, h, kids(api.OpAdd, 1, 1)),
		"itself as a part":              list(kids(api.OpNeg, 0)),
		"itself as a later part":        list(h, kids(api.OpAdd, 0, 1)),
		"a part behind it":              list(kids(api.OpNeg, 1), h),
		"part -1 alone":                 list(kids(api.OpNeg, -1)),
		"part -1 and 0":                 list(h, kids(api.OpAdd, -1, 0)),
		"parts -1, 0, 1":                list(h, h, kids(api.OpIf, -1, 0, 1)),
		"a part far below":              list(h, kids(api.OpNeg, math.MinInt)),
		"a part far above":              list(h, kids(api.OpNeg, math.MaxInt)),
		"two wholes":                    list(one, one),
		"two holes":                     list(h, h),
		"a hole behind the whole":       list(h, kids(api.OpNeg, 0), h),
		"a node that is no part":        list(a, h, kids(api.OpNeg, 1)),
		"a hole that is no part":        list(h, a, kids(api.OpNeg, 1)),
		"no part in the middle":         list(a, h, a, kids(api.OpAdd, 0, 2)),
		"a gap behind":                  list(a, a, h, kids(api.OpAdd, 0, 1)),
		"part of a part":                list(h, kids(api.OpNeg, 0), kids(api.OpAdd, 0, 1)),
		"part of two":                   list(h, kids(api.OpNeg, 0), kids(api.OpNeg, 0), kids(api.OpAdd, 1, 2)),
		"right part finished first":     list(h, one, kids(api.OpNeg, 0), kids(api.OpAdd, 1, 2)),
	}
	for op := api.OpNeg; op <= api.OpIf; op++ {
		l[fmt.Sprint("no parts of op ", op)] = list(kids(op))
	}
	return l
}

func TestNotSound(t *testing.T) {
	for what, l := range faults() {
		if soundPattern(l) || soundExpr(l) {
			t.Fatalf("%s is sound", what)
		}
		refused(t, what, l)
	}
}

// TestEveryShortList: all lists of up to three nodes, most of them not sound.
func TestEveryShortList(t *testing.T) {
	some := []api.Node{
		{Op: api.OpLit, N: 1}, {Op: api.OpLit, Name: "a"}, {Op: api.OpVar, Name: "a"}, {Op: api.OpVar, Name: "a", N: 1},
		{Op: api.OpHole, Name: "a"}, {Op: api.OpHole, Name: "b"}, {Op: api.OpHole}, {Op: api.OpHole, Name: "b", N: 1}, {Op: api.OpHole, Name: "b", Kids: []int{0}}, {Op: api.OpHole, Name: "3"},
		{Op: api.OpNeg}, {Op: api.OpNeg, Kids: []int{0}}, {Op: api.OpNeg, Kids: []int{1}}, {Op: api.OpNeg, Kids: []int{0, 1}}, {Op: api.OpNeg, Kids: []int{-1}},
		{Op: api.OpAdd, Kids: []int{0, 1}}, {Op: api.OpAdd, Kids: []int{1, 0}}, {Op: api.OpAdd, Kids: []int{0, 0}}, {Op: api.OpAdd, Kids: []int{0}}, {Op: 0}, {Op: 19, Name: "a"},
	}
	all, sound := [][]api.Node{nil}, 0
	for from := 0; from < len(all); from++ {
		p := all[from]
		want := api.ErrForm
		if soundPattern(p) {
			want = api.OK
			sound++
		}
		if bad := pattern.Check(p); bad != want {
			t.Fatalf("Check(%s): %d, want %d", text(p), bad, want)
		}
		if _, bad := pattern.Holes(p); bad != want {
			t.Fatalf("Holes(%s): %d, want %d", text(p), bad, want)
		}
		if len(p) < 3 {
			for _, n := range some {
				all = append(all, append(slices.Clone(p), n))
			}
		}
	}
	// Four leaves; under a Neg, under two of them, and two under an Add.
	if sound != 4+4+4+16 {
		t.Errorf("%d are sound", sound)
	}
}

// leaves is of what patterns and expressions are made by chance; holes and variables have names in common.
func leaves(holes int) []tree {
	l := []tree{lit(0), lit(1), lit(-1), vari("a"), vari("b"), vari("é")}
	for _, name := range []string{"a", "b", "c", "é", "x₂", "名", "zz"}[:holes] {
		l = append(l, hole(name), hole(name))
	}
	return l
}

func TestHolesByChance(t *testing.T) {
	r := rand.New(rand.NewSource(1401))
	for range 5000 {
		p := chance(r, leaves(r.Intn(8)), 1+r.Intn(18))
		if l := p.nodes(); soundPattern(l) {
			holds(t, l, p.names()...)
		} else {
			refused(t, text(l), l)
		}
	}
}

// P14.2

func TestFill(t *testing.T) {
	for _, c := range []struct{ pattern, with, want string }{
		{"a", "", "a"},
		{"a * -(b + 1)", "", "a * -(b + 1)"},
		{"@a", "x", "x"},
		{"@a", "a", "a"},
		{"@a", "x + 1 * y", "x + 1 * y"},
		{"-@a", "7", "-(7)"},
		{"-@a", "x ? y : z", "-(x ? y : z)"},
		{"@a + @a", "x", "x + x"},
		{"@a ? @a : @a", "x - 1", "(x - 1) ? (x - 1) : (x - 1)"},
		{"@a + @b * @a", "x+1;2", "x+1 + 2 * (x+1)"},
		{"@b + @a * @b", "x+1;2", "x+1 + 2 * (x+1)"},
		{"@b + @a", "1;2", "1 + 2"},
		{"@a + a", "x", "x + a"},
		{"a + @a", "b", "a + b"},
		{"@a + a", "a", "a + a"},
		{"@a + a + @b + b", "b;a", "b + a + a + b"},
		{"@c ? @b : @a", "1;2;3", "1 ? 2 : 3"},
		{"(@x - @y) - (@z - @x)", "-p;q;r << s", "(-p - q) - ((r << s) - -p)"},
		{"@a - (~b - @b) - c", "x * y;5 % z", "x * y - (~b - 5 % z) - c"},
		{"@f-@e-@d-@c-@b-@a", "1;2;3;x;y;-z", "1-2-3-x-y- -z"},
	} {
		fills(t, c.pattern, pat(t, c.pattern), reads(t, c.with), read(t, c.want), api.OK)
	}
}

func TestFillNumberOfParts(t *testing.T) {
	a, b := read(t, "a"), read(t, "b+1")
	for _, c := range []struct {
		pattern string
		holes   int
	}{{"a", 0}, {"a+1", 0}, {"@a", 1}, {"@a + @a", 1}, {"@a + a", 1}, {"@a + @b", 2}, {"@a ? @b : @a", 2}, {"@a ? @b : @c", 3}, {"@f-@e-@d-@c-@b-@a-@a", 6}} {
		var with [][]api.Node
		for n := range 20 {
			if n != c.holes {
				fills(t, c.pattern, pat(t, c.pattern), with, nil, api.ErrArg)
			} else if e, bad := pattern.Fill(pat(t, c.pattern), with); len(e) == 0 || bad != api.OK {
				t.Errorf("%s with %d parts: %d", c.pattern, n, bad)
			}
			with = append(with, [][]api.Node{a, b}[n%2])
		}
	}
	fills(t, "nil for none", pat(t, "a"), nil, a, api.OK)
	fills(t, "empty for none", pat(t, "a"), [][]api.Node{}, a, api.OK)
	fills(t, "nil for one", pat(t, "@a"), nil, nil, api.ErrArg)
	// Too large it would be, too, but the number counts first.
	big := long(vari("v"), api.MaxTerm).nodes()
	fills(t, "too many that are too large", pat(t, "@a + @a"), [][]api.Node{big, big}, nil, api.ErrArg)
	fills(t, "too few that are too large", pat(t, "@a + @a + @b"), [][]api.Node{big}, nil, api.ErrArg)
}

// TestFillNotSound: a part that is not sound counts first, wherever it stands and whatever else is wrong.
func TestFillNotSound(t *testing.T) {
	one, big := lit(1).nodes(), long(vari("v"), api.MaxTerm).nodes()
	wrong := faults()
	wrong["a hole"] = pat(t, "@a")
	wrong["a hole in it"] = pat(t, "@a + 1")
	wrong["MaxTerm+1 nodes"] = long(vari("v"), api.MaxTerm+1).nodes()
	wrong["a million nodes"] = make([]api.Node, 1<<20)
	for what, x := range wrong {
		for _, c := range []struct {
			pattern string
			with    [][]api.Node
		}{
			{"@a", [][]api.Node{x}},
			{"@a + @b", [][]api.Node{x, one}},
			{"@a + @b", [][]api.Node{one, x}},
			{"@a + @b", [][]api.Node{x, x}},
			{"@a + @b", [][]api.Node{x}},
			{"@a + @b", [][]api.Node{one, one, x}},
			{"@a + @b", [][]api.Node{x, one, one}},
			{"@a + @b", [][]api.Node{big, x}},
			{"@a + @b", [][]api.Node{x, big}},
			{"@a + @a", [][]api.Node{big, x}},
			{"a", [][]api.Node{x}},
			{"a", [][]api.Node{one, one, one, x}},
		} {
			fills(t, what+" into "+c.pattern, pat(t, c.pattern), c.with, nil, api.ErrForm)
		}
	}
}

func TestFillSize(t *testing.T) {
	if api.MaxTerm != 64 {
		t.Fatal("MaxTerm")
	}
	v := vari("v")
	for _, c := range []struct {
		what    string
		pattern string
		fit     []tree // fill it to MaxTerm nodes
		over    []tree // fill it to one more
	}{
		{"under a sign", "-@a", []tree{long(v, 63)}, []tree{long(v, 64)}},
		{"a sum of two", "@a + @b", []tree{long(v, 1), long(v, 62)}, []tree{long(v, 63), v}},
		{"a sum of two, the first", "@a + @b", []tree{long(v, 62), v}, []tree{long(v, 62), long(v, 2)}},
		{"twice", "-(@a + @a)", []tree{long(v, 31)}, nil},
		{"twice, and once", "@a + @b * @a", []tree{long(v, 20), long(v, 22)}, []tree{long(v, 30), long(v, 3)}},
		{"three times", "@a ? @a : @a", []tree{long(v, 21)}, nil},
		{"many holes", "@a-@b-@c-@d-@e-@f", []tree{v, long(v, 54), v, v, v, v}, []tree{long(v, 10), long(v, 10), long(v, 10), long(v, 10), long(v, 10), long(v, 10)}},
		{"in the midst", "1 - (~@a - 2) * c", []tree{long(v, 57)}, []tree{long(v, 58)}},
	} {
		p := pat(t, c.pattern)
		if e, bad := pattern.Fill(p, lists(c.fit...)); len(e) != 64 || expr.Check(e) != api.OK || bad != api.OK {
			t.Errorf("%s: %d nodes, %d", c.what, len(e), bad)
		}
		if c.over != nil {
			fills(t, c.what, p, lists(c.over...), nil, api.ErrLarge)
		}
	}
	big := long(v, 64)
	fills(t, "a hole alone", pat(t, "@a"), lists(big), big.nodes(), api.OK)
	fills(t, "twice, too large", pat(t, "@a + @a"), lists(long(v, 32)), nil, api.ErrLarge)
	fills(t, "three times, too large", pat(t, "@a ? @a : @a"), lists(long(v, 22)), nil, api.ErrLarge)
	fills(t, "far too large", pat(t, "@a + @a + @a + @a + @a + @a + @a + @a"), lists(big), nil, api.ErrLarge)
	// Just one more, with a hole that stands an odd number of times.
	fills(t, "65 of three", pat(t, "-(@a ? @a : @a)"), lists(long(v, 21)), nil, api.ErrLarge)
}

func TestFillByChance(t *testing.T) {
	r := rand.New(rand.NewSource(1402))
	var large, ok int
	for range 20000 {
		p := chance(r, leaves(r.Intn(7)), 1+r.Intn(16))
		var with []tree
		for range p.names() {
			with = append(with, chance(r, leaves(0), 1+r.Intn(20)))
		}
		want, err := p.filled(p.names(), with).nodes(), api.OK
		if len(want) > 64 {
			want, err = nil, api.ErrLarge
			large++
		} else {
			ok++
		}
		fills(t, text(p.nodes()), p.nodes(), lists(with...), want, err)
		if err != api.OK {
			continue
		}
		if !soundExpr(want) {
			t.Fatal("the second reckoning is not sound")
		}
		fits(t, text(p.nodes()), p.nodes(), want, lists(with...), api.OK)
	}
	if large < 1000 || ok < 1000 {
		t.Errorf("%d too large, %d filled", large, ok)
	}
}

// P14.3

func TestFits(t *testing.T) {
	for _, c := range []struct{ pattern, expr, want string }{
		{"a", "a", ""},
		{"7", "7", ""},
		{"-9223372036854775808", "-9223372036854775808", ""},
		{"a * -(b + 1)", "a * -(b + 1)", ""},
		{"@a", "a", "a"},
		{"@a", "7", "7"},
		{"@a", "x + 1 * y", "x + 1 * y"},
		{"@a", "x ? y : z", "x ? y : z"},
		{"-@a", "-(7)", "7"},
		{"-@a", "- -7", "-7"},
		{"@a + @a", "x + x", "x"},
		{"@a + @a", "(x - 1) + (x - 1)", "x - 1"},
		{"@a ? @a : @a", "x * y ? x * y : x * y", "x * y"},
		{"@a + @b", "x + x", "x;x"},
		{"@a + @b", "1 + 2", "1;2"},
		{"@b + @a", "1 + 2", "1;2"},
		{"@a - @b", "x - y - z", "x - y;z"},
		{"@a - @b", "x - (y - z)", "x;y - z"},
		{"@a - @b - @c", "x - y - z", "x;y;z"},
		{"@a + @b * @a", "x + 2 * x", "x;2"},
		{"@a + @b * @a", "~x + y / 2 * ~x", "~x;y / 2"},
		{"@b + @a * @b", "x + 2 * x", "x;2"},
		{"@a + a", "x + a", "x"},
		{"@a + a", "a + a", "a"},
		{"a + @a", "a + (a + b)", "a + b"},
		{"@a + a + @b + b", "b + a + a + b", "b;a"},
		{"@c ? @b : @a", "1 ? 2 : 3", "1;2;3"},
		{"@a + 0", "x + 0", "x"},
		{"(@x - @y) - (@z - @x)", "(-p - q) - ((r << s) - -p)", "-p;q;r << s"},
		{"@f-@e-@d-@c-@b-@a", "1-2-3-x-y- -z", "1;2;3;x;y;-z"},
	} {
		fits(t, c.pattern+" and "+c.expr, pat(t, c.pattern), read(t, c.expr), reads(t, c.want), api.OK)
	}
}

func TestFitsNone(t *testing.T) {
	for _, c := range []struct{ pattern, expr string }{
		{"a", "b"}, {"a", "1"}, {"1", "a"}, {"1", "2"}, {"0", "a"}, {"1", "-1"}, {"a", "A"}, {"a", "ab"}, {"ab", "a"}, {"é", "e"},
		{"a", "-a"}, {"-a", "a"}, {"a", "a + a"}, {"0", "0 + 0"}, {"-5", "- 5"}, {"- 5", "-5"},
		// Another operator, of as many parts and of others.
		{"-@a", "~x"}, {"~@a", "-x"}, {"-@a", "x"}, {"-@a", "x + y"}, {"-@a", "x ? y : z"},
		{"@a + @b", "x - y"}, {"@a / @b", "x % y"}, {"@a == @b", "x < y"}, {"@a << @b", "x >> y"}, {"@a & @b", "x | y"},
		{"@a + @b", "-x"}, {"@a + @b", "x"}, {"@a + @b", "1"}, {"@a + @b", "x ? y : z"}, {"@a + @b", "- (x + y)"},
		{"@a ? @b : @c", "x + y"}, {"@a ? @b : @c", "-x"}, {"@a ? @b : @c", "x"}, {"@a ? @b : @c", "x + y + z"},
		// Another number or name below.
		{"@a + 0", "x + 1"}, {"@a + 0", "x + y"}, {"@a + 0", "0 + x"}, {"0 + @a", "x + 0"}, {"@a + -1", "x + 1"},
		{"@a + x", "x + y"}, {"x + @a", "y + x"}, {"@a + a", "a + x"}, {"a + @a", "x + a"}, {"@a + é", "x + e"},
		// Another form below.
		{"@a - (@b - @c)", "x - y - z"}, {"@a - @b - @c", "x - (y - z)"}, {"@a * (@b + @c)", "x * y + z"}, {"-(-@a)", "-x"}, {"@a ? @b : @c + 1", "x ? y + 1 : z"},
		// One hole, two expressions.
		{"@a + @a", "x + y"}, {"@a + @a", "1 + 2"}, {"@a + @a", "1 + -1"}, {"@a + @a", "x + 0"}, {"@a + @a", "0 + x"}, {"@a + @a", "x + -x"}, {"@a + @a", "x * y + y * x"}, {"@a + @a", "(x + 1) + (x - 1)"}, {"@a + @a", "x + y + x"},
		{"@a + @a", "(x - y - z) + (x - (y - z))"}, {"@a + @b * @a", "x + 2 * y"}, {"@a ? @a : @b", "x ? y : y"}, {"@a ? @b : @a", "x ? x : y"}, {"@a ? @b : @b", "x ? x : y"}, {"@a ? @a : @a", "x ? x : y"}, {"@a ? @a : @a", "x ? y : x"}, {"@a ? @a : @a", "y ? x : x"},
		// Longer than the expression.
		{"@a + @b * @c - 1", "x"}, {"~~~~~~~~~~~~~~~@a", "~~x"}, {"@a+@b+@c+@d", "x + y"}, {"@a+(@b+(@c+@d))", "x + y"}, {"a+a+a+a+a+a+a+a", "a + a"}, {"@a ? (@b ? @c : @d) : @e", "x ? y : z"},
	} {
		fits(t, c.pattern+" and "+c.expr, pat(t, c.pattern), read(t, c.expr), nil, api.ErrNone)
	}
}

// TestFitsEachOperator: a pattern of each operator stands just at expressions of it.
func TestFitsEachOperator(t *testing.T) {
	names := []string{"x", "y", "z"}
	for op := api.OpNeg; op <= api.OpIf; op++ {
		for other := api.OpNeg; other <= api.OpIf; other++ {
			p, e := do(op), do(other)
			for _, name := range names[:parts[op]] {
				p.parts = append(p.parts, hole(name))
			}
			for _, name := range names[:parts[other]] {
				e.parts = append(e.parts, vari(name))
			}
			want, err := lists(e.parts...), api.OK
			if op != other {
				want, err = nil, api.ErrNone
			}
			fits(t, text(p.nodes()), p.nodes(), e.nodes(), want, err)
		}
	}
}

func TestFitsNotSound(t *testing.T) {
	wrong := faults()
	wrong["a hole"] = pat(t, "@a")
	wrong["a hole in it"] = pat(t, "@a + 1")
	wrong["a hole for a variable"] = pat(t, "a + @b")
	wrong["MaxTerm+1 nodes"] = long(vari("v"), api.MaxTerm+1).nodes()
	wrong["a million nodes"] = make([]api.Node, 1<<20)
	for what, e := range wrong {
		for _, p := range []string{"@a", "a", "@a + 1", "@a + @a", "-@a", "@a + @b", "a + @b"} {
			fits(t, what+" to "+p, pat(t, p), e, nil, api.ErrForm)
		}
	}
}

// TestFitsLarge: an expression may have more nodes than a pattern.
func TestFitsLarge(t *testing.T) {
	v := vari("v")
	e := long(v, api.MaxTerm)
	fits(t, "a hole alone", pat(t, "@a"), e.nodes(), lists(e), api.OK)
	fits(t, "a sign", pat(t, "-@a"), e.nodes(), lists(long(v, 63)), api.OK)
	fits(t, "fifteen signs", long(hole("a"), 16).nodes(), e.nodes(), lists(long(v, 49)), api.OK)
	fits(t, "sixteen nodes", long(v, 16).nodes(), e.nodes(), nil, api.ErrNone)
	half := long(v, 31)
	fits(t, "halves", pat(t, "@a + @a"), do(api.OpAdd, half, half).nodes(), lists(half), api.OK)
	fits(t, "halves that differ", pat(t, "@a + @a"), do(api.OpAdd, half, long(vari("w"), 31)).nodes(), nil, api.ErrNone)
	fits(t, "halves of two sizes", pat(t, "@a + @a"), do(api.OpAdd, half, long(v, 32)).nodes(), nil, api.ErrNone)
}

// fitsAsTried holds Fits against all that could fill the pattern, and what it finds against Fill; it answers whether it fits.
func fitsAsTried(t *testing.T, p, e tree) bool {
	t.Helper()
	all := fillers(p, e)
	if len(all) > 1 {
		t.Fatalf("%s and %s: %d lists", text(p.nodes()), text(e.nodes()), len(all))
	}
	if len(all) == 0 {
		fits(t, text(p.nodes()), p.nodes(), e.nodes(), nil, api.ErrNone)
		return false
	}
	fits(t, text(p.nodes()), p.nodes(), e.nodes(), lists(all[0]...), api.OK)
	found, _ := pattern.Fits(p.nodes(), e.nodes())
	fills(t, text(p.nodes()), p.nodes(), found, e.nodes(), api.OK)
	return true
}

// short is every tree of 1 to 4 nodes over some leaves and three operators.
func short(leaves ...tree) []tree {
	of := [][]tree{nil, leaves}
	for size := 2; size <= 4; size++ {
		var l []tree
		for _, a := range of[size-1] {
			l = append(l, do(api.OpNeg, a))
		}
		for left := 1; left < size-1; left++ {
			for _, a := range of[left] {
				for _, b := range of[size-1-left] {
					l = append(l, do(api.OpSub, a, b))
				}
			}
		}
		if size == 4 {
			for _, a := range leaves {
				l = append(l, do(api.OpIf, a, leaves[0], a), do(api.OpIf, leaves[0], a, a))
			}
		}
		of = append(of, l)
	}
	return slices.Concat(of...)
}

func TestFitsEveryShort(t *testing.T) {
	yes, no := 0, 0
	for _, p := range short(hole("a"), hole("b"), vari("a"), lit(0)) {
		for _, e := range short(vari("a"), vari("b"), lit(0)) {
			if fitsAsTried(t, p, e) {
				yes++
			} else {
				no++
			}
		}
	}
	if yes < 400 || no < 4000 {
		t.Errorf("%d fit, %d do not", yes, no)
	}
}

// TestFitsByChance: expressions that fill a pattern, with one node changed in some of them.
func TestFitsByChance(t *testing.T) {
	r := rand.New(rand.NewSource(1403))
	yes, no := 0, 0
	for range 4000 {
		p := chance(r, leaves(r.Intn(4)), 1+r.Intn(9))
		var with []tree
		for range p.names() {
			with = append(with, chance(r, leaves(0), 1+r.Intn(3)))
		}
		e := p.filled(p.names(), with)
		if r.Intn(2) == 0 {
			e = changed(r, e)
		}
		if fitsAsTried(t, p, e) {
			yes++
		} else {
			no++
		}
	}
	if yes < 500 || no < 500 {
		t.Errorf("%d fit, %d do not", yes, no)
	}
}

// changed is a tree with another operator, or another leaf, at a place.
func changed(r *rand.Rand, t tree) tree {
	if len(t.parts) > 0 && r.Intn(4) > 0 {
		t.parts = slices.Clone(t.parts)
		at := r.Intn(len(t.parts))
		t.parts[at] = changed(r, t.parts[at])
		return t
	}
	if len(t.parts) == 0 {
		return chance(r, leaves(0), 1+r.Intn(2))
	}
	return chance(r, leaves(0), 1+r.Intn(t.size()))
}

// The chapter's examples.

func TestExamples(t *testing.T) {
	p := pat(t, "@a + @b * @a")
	holds(t, p, "a", "b")
	e, bad := pattern.Fill(p, reads(t, "x+1;2"))
	if s, _ := show.Show(e); s != "x + 1 + 2 * (x + 1)" || bad != api.OK {
		t.Errorf("Fill: %s, %d", s, bad)
	}
	fits(t, "example 1", p, read(t, "x + 2 * x"), reads(t, "x;2"), api.OK)
	fits(t, "example 1", p, read(t, "x + 2 * y"), nil, api.ErrNone)
	for _, s := range []string{"a", "0", "a + 1", "a ? -b : c << 2"} {
		fits(t, "example 2", pat(t, "@a"), read(t, s), reads(t, s), api.OK)
	}
	fits(t, "example 2", pat(t, "a"), read(t, "a"), nil, api.OK)
	fits(t, "example 2", pat(t, "a"), read(t, "b"), nil, api.ErrNone)
	fills(t, "example 3", pat(t, "@a + @b"), reads(t, "x"), nil, api.ErrArg)
	if bad := pattern.Check(row(hole("a"), hole("b"), hole("c"), hole("d"), hole("e"), hole("f"), hole("g")).nodes()); bad != api.ErrForm {
		t.Errorf("seven holes: %d", bad)
	}
}
