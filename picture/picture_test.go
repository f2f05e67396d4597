package picture_test

import (
	"iter"
	"math"
	"math/rand"
	"slices"
	"strings"
	"testing"

	"sorrel/api"
	"sorrel/graph"
	"sorrel/parse"
	"sorrel/picture"
)

func lit(n int64) api.Node            { return api.Node{Op: api.OpLit, N: n} }
func vari(s string) api.Node          { return api.Node{Op: api.OpVar, Name: s} }
func do(op int, kids ...int) api.Node { return api.Node{Op: op, Kids: kids} }

func class(size int, nodes ...api.Node) api.Class { return api.Class{Nodes: nodes, Size: size} }

// pic is a picture of classes, without roots.
func pic(classes ...api.Class) api.Picture { return api.Picture{Classes: classes} }

// read is the expression of a text of layer 4.
func read(t *testing.T, s string) []api.Node {
	t.Helper()
	e, at, bad := parse.Parse(s)
	if bad != api.OK {
		t.Fatalf("Parse(%q): %d at %d", s, bad, at)
	}
	return e
}

// told is the picture of expressions, each a root; = between two: they are merged.
func told(t *testing.T, lines ...string) api.Picture {
	t.Helper()
	return further(t, api.Picture{}, lines...)
}

// further is a picture in which more is told.
func further(t *testing.T, p api.Picture, lines ...string) api.Picture {
	t.Helper()
	g, bad := graph.Of(p)
	for _, s := range lines {
		if bad != api.OK {
			break
		}
		if a, b, merged := strings.Cut(s, " = "); merged {
			bad = g.Merge(read(t, a), read(t, b))
		} else {
			bad = g.Add(read(t, s))
		}
	}
	if bad != api.OK {
		t.Fatalf("%v: %d", lines, bad)
	}
	p, bad = g.Picture()
	if bad != api.OK {
		t.Fatalf("the picture of %v: %d", lines, bad)
	}
	return p
}

// base is a sound picture with something of everything: classes that represent expressions without end, by themselves and by one another, classes of one Size, and several nodes that come to the Size of their class.
func base() api.Picture {
	return api.Picture{
		Classes: []api.Class{
			class(1, lit(-1)),
			class(1, lit(1)),
			class(1, vari("a"), vari("b"), do(api.OpAdd, 2, 1)),
			class(1, vari("c")),
			class(2, do(api.OpNeg, 2), do(api.OpNeg, 3), do(api.OpSub, 0, 2)),
			class(2, do(api.OpNot, 3)),
			class(3, do(api.OpSub, 2, 3), do(api.OpIf, 0, 1, 2)),
			class(3, do(api.OpSub, 3, 2), do(api.OpMul, 8, 8)),
			class(4, do(api.OpNeg, 7)),
		},
		Roots: []int{6, 8, 0, 6},
	}
}

// tower is a leaf, and sums of it with itself, of these with themselves, and so on, so often; the sizes are 1, 3, 7, 15, ..
func tower(leaf api.Node, levels int) api.Picture {
	p := pic(class(1, leaf))
	for level := range levels {
		p.Classes = append(p.Classes, class(4<<level-1, do(api.OpAdd, level, level)))
	}
	return p
}

// line is a leaf, and negations around it, one class each, so that the last class has that size.
func line(size int) api.Picture {
	p := pic(class(1, vari("v")))
	for i := 1; i < size; i++ {
		p.Classes = append(p.Classes, class(i+1, do(api.OpNeg, i-1)))
	}
	return p
}

// literals is so many of them, from 0 on.
func literals(many int) []api.Node {
	var list []api.Node
	for i := range many {
		list = append(list, lit(int64(i)))
	}
	return list
}

// heap is a picture of one class of so many literals.
func heap(many int) api.Picture { return pic(class(1, literals(many)...)) }

// pairs is a picture of so many classes, each of two literals.
func pairs(many int) api.Picture {
	var p api.Picture
	all := literals(2 * many)
	for i := range many {
		p.Classes = append(p.Classes, class(1, all[2*i:2*i+2:2*i+2]...))
	}
	return p
}

// renumbered is a picture whose classes have other places: its class number i goes to the place to[i].
func renumbered(p api.Picture, to []int) api.Picture {
	q := api.Picture{Classes: make([]api.Class, len(p.Classes))}
	for c, old := range p.Classes {
		var nodes []api.Node
		for _, n := range old.Nodes {
			nodes = append(nodes, put(n, to))
		}
		slices.SortFunc(nodes, nodeOrder)
		q.Classes[to[c]] = class(old.Size, nodes...)
	}
	for _, root := range p.Roots {
		q.Roots = append(q.Roots, to[root])
	}
	return q
}

// swapped is a picture with two classes changed about.
func swapped(p api.Picture, a, b int) api.Picture {
	to := make([]int, len(p.Classes))
	for i := range to {
		to[i] = i
	}
	to[a], to[b] = b, a
	return renumbered(p, to)
}

var (
	fewOps    = []int{api.OpNeg, api.OpSub}
	someOps   = []int{api.OpNot, api.OpMul, api.OpIf}
	fewLeaves = []api.Node{lit(-1), lit(0), vari("a"), vari("b"), vari("é")}
)

// everyOp is all operators with parts.
func everyOp() []int {
	var ops []int
	for op := api.OpNeg; op <= api.OpIf; op++ {
		ops = append(ops, op)
	}
	return ops
}

// opsOf changes from round to round.
func opsOf(round int) []int { return [][]int{fewOps, someOps, everyOp()}[round%3] }

// accepted holds that a picture is sound, and how many nodes it has.
func accepted(t *testing.T, what string, p api.Picture) {
	t.Helper()
	if bad := picture.Check(p); bad != api.OK {
		t.Fatalf("Check, %s: %d", what, bad)
	}
	want := len(slices.Concat(nodesOf(p)...))
	if many, bad := picture.Nodes(p); many != want || bad != api.OK {
		t.Fatalf("Nodes, %s: %d, %d, want %d", what, many, bad, want)
	}
}

// refused holds that all calls say of a picture that it is not sound, whatever else they are given, and answer nothing beside.
func refused(t *testing.T, what string, p api.Picture) {
	t.Helper()
	if bad := picture.Check(p); bad != api.ErrForm {
		t.Errorf("Check, %s: %d", what, bad)
	}
	if many, bad := picture.Nodes(p); many != 0 || bad != api.ErrForm {
		t.Errorf("Nodes, %s: %d, %d", what, many, bad)
	}
	for _, e := range [][]api.Node{{vari("a")}, {vari("nowhere")}, nil} {
		if at, bad := picture.Class(p, e); at != 0 || bad != api.ErrForm {
			t.Errorf("Class, %s: %d, %d", what, at, bad)
		}
	}
	for _, c := range []int{0, len(p.Classes) - 1, -1, len(p.Classes), math.MaxInt} {
		if e, bad := picture.Least(p, c); len(e) != 0 || bad != api.ErrForm {
			t.Errorf("Least, %s: %v, %d", what, e, bad)
		}
		for _, most := range []int{3, -1, 6} {
			it, bad := picture.Terms(p, c, most)
			if bad != api.ErrForm {
				t.Errorf("Terms, %s: %d", what, bad)
			}
			empty(t, what, it)
		}
	}
	for _, c := range [][2]api.Picture{{p, base()}, {base(), p}, {p, p}, {p, {}}, {{}, p}} {
		if ok, bad := picture.Inside(c[0], c[1]); ok || bad != api.ErrForm {
			t.Errorf("Inside, %s: %v, %d", what, ok, bad)
		}
	}
}

// empty holds that an iterator is one, and gives nothing.
func empty(t *testing.T, what string, it iter.Seq[[]api.Node]) {
	t.Helper()
	if it == nil {
		t.Fatalf("%s: the iterator is nil", what)
	}
	for e := range it {
		t.Fatalf("%s: the iterator gives %v", what, e)
	}
}

// P12.1

func TestCheckOfSoundPictures(t *testing.T) {
	var ops []api.Node
	for op := api.OpNeg; op <= api.OpIf; op++ {
		ops = append(ops, do(op, []int{1, 0, 1}[:arities[op]]...))
	}
	mixed := base()
	mixed.Classes[2].Nodes[0].Kids = []int{}
	for what, p := range map[string]api.Picture{
		"nothing":               {},
		"empty lists":           {Classes: []api.Class{}, Roots: []int{}},
		"base":                  base(),
		"an empty list of kids": mixed,
		"a literal":             pic(class(1, lit(0))),
		"literals at their end": pic(class(1, lit(math.MinInt64)), class(1, lit(math.MaxInt64))),
		"names":                 pic(class(1, vari("A")), class(1, vari("_")), class(1, vari("a")), class(1, vari("aa")), class(1, vari("a₁")), class(1, vari("é")), class(1, vari("名")), class(1, vari("\U00010400"))),
		"a long name":           pic(class(1, vari(strings.Repeat("名", api.MaxName)))),
		"a class around itself": pic(class(1, vari("a"), do(api.OpNeg, 0), do(api.OpIf, 0, 0, 0))),
		"two around each other": pic(class(1, vari("a"), do(api.OpNeg, 1)), class(1, vari("b"), do(api.OpNeg, 0))),
		"a ring with one leaf":  pic(class(1, vari("a"), do(api.OpNeg, 2)), class(2, do(api.OpNeg, 0)), class(3, do(api.OpNeg, 1))),
		"every operator":        pic(class(1, lit(1)), class(1, append([]api.Node{vari("a")}, ops...)...)),
		"many roots":            {Classes: base().Classes, Roots: slices.Repeat([]int{8, 0, 0, 3}, 5000)},
		"a line":                line(200),
		"a tower":               tower(vari("a"), 29),
		"MaxClasses":            pairs(api.MaxClasses),
		"MaxNodes":              heap(api.MaxNodes),
	} {
		accepted(t, what, p)
		if len(p.Classes) <= 200 && !sound(p) {
			t.Errorf("%s is not sound", what)
		}
	}
}

// spoils is the ways in which base can fail to be sound, each by one thing, where that can be.
func spoils() map[string]func(p *api.Picture) {
	type spoil = func(p *api.Picture)
	node := func(c, at int, n api.Node) spoil {
		return func(p *api.Picture) { p.Classes[c].Nodes[at] = n }
	}
	last := func(c int, n api.Node) spoil {
		return func(p *api.Picture) { p.Classes[c].Nodes = append(p.Classes[c].Nodes, n) }
	}
	behind := func(c ...api.Class) spoil {
		return func(p *api.Picture) { p.Classes = append(p.Classes, c...) }
	}
	size := func(c, size int) spoil {
		return func(p *api.Picture) { p.Classes[c].Size = size }
	}
	about := func(a, b int) spoil {
		return func(p *api.Picture) { *p = swapped(*p, a, b) }
	}
	turned := func(c, a, b int) spoil {
		return func(p *api.Picture) { n := p.Classes[c].Nodes; n[a], n[b] = n[b], n[a] }
	}
	roots := func(roots ...int) spoil {
		return func(p *api.Picture) { p.Roots = roots }
	}
	return map[string]spoil{
		"a last class without nodes":          behind(class(9)),
		"a class in the midst without nodes":  func(p *api.Picture) { p.Classes[5].Nodes = nil },
		"no operator":                         last(8, api.Node{Op: 0}),
		"an operator below all":               node(0, 0, api.Node{Op: -1}),
		"an operator far below":               node(0, 0, api.Node{Op: math.MinInt}),
		"a hole":                              last(8, api.Node{Op: api.OpHole, Name: "a"}),
		"a hole alone":                        behind(class(1, api.Node{Op: api.OpHole, Name: "a"})),
		"an operator above all":               last(8, do(19, 0, 1)),
		"an operator far above":               last(8, do(math.MaxInt, 0, 1)),
		"a literal with a kid":                last(0, api.Node{Op: api.OpLit, N: 5, Kids: []int{0}}),
		"a variable with a kid":               node(3, 0, api.Node{Op: api.OpVar, Name: "c", Kids: []int{0}}),
		"a negation without kids":             last(3, do(api.OpNeg)),
		"a negation of two":                   node(8, 0, do(api.OpNeg, 7, 0)),
		"a sum of one":                        last(8, do(api.OpAdd, 7)),
		"a sum of none":                       last(8, do(api.OpAdd)),
		"a sum of three":                      last(8, do(api.OpAdd, 0, 0, 0)),
		"a choice of two":                     last(8, do(api.OpIf, 0, 0)),
		"a choice of four":                    last(8, do(api.OpIf, 0, 0, 0, 0)),
		"kid -1":                              last(8, do(api.OpNot, -1)),
		"a kid behind the last class":         last(8, do(api.OpNot, 9)),
		"a second kid behind the last class":  last(8, do(api.OpAdd, 0, 9)),
		"a third kid behind the last class":   last(8, do(api.OpIf, 0, 0, 9)),
		"a least node's kid behind the last":  node(8, 0, do(api.OpNeg, 9)),
		"a kid far above":                     last(8, do(api.OpNot, math.MaxInt)),
		"a kid far below":                     last(8, do(api.OpNot, math.MinInt)),
		"root -1":                             roots(-1),
		"a root behind the last class":        roots(8, 9),
		"a root far above":                    roots(0, 1<<32, 0),
		"a root far below":                    roots(math.MinInt, 1),
		"a variable with N":                   last(3, api.Node{Op: api.OpVar, Name: "d", N: 1}),
		"an operator with N":                  last(8, api.Node{Op: api.OpNot, N: -1, Kids: []int{0}}),
		"a literal with a name":               last(1, api.Node{Op: api.OpLit, N: 5, Name: "a"}),
		"an operator with a name":             last(8, api.Node{Op: api.OpNot, Name: "a", Kids: []int{0}}),
		"a variable without a name":           node(3, 0, vari("")),
		"a name that is a number":             node(3, 0, vari("3")),
		"a name with a blank":                 node(3, 0, vari("c c")),
		"a name with a bad byte":              node(3, 0, vari("c\xff")),
		"a name that is too long":             node(3, 0, vari(strings.Repeat("c", api.MaxName+1))),
		"a leaf twice in a class":             last(3, vari("c")),
		"an operator's node twice in a class": last(8, do(api.OpNeg, 7)),
		"a node twice in a row":               func(p *api.Picture) { n := &p.Classes[2].Nodes; *n = slices.Insert(*n, 1, (*n)[0]) },
		"a leaf in two classes":               last(0, vari("b")),
		"the least leaf in two classes":       last(1, vari("c")),
		"an operator's node in two classes":   last(8, do(api.OpMul, 8, 8)),
		"a least node in another class":       last(3, do(api.OpNeg, 7)),
		"two least nodes the same":            behind(class(4, do(api.OpNeg, 7))),
		"negations of itself alone":           behind(class(9, do(api.OpNeg, 9))),
		"nothing with the Size of itself":     behind(class(5, do(api.OpNeg, 9), do(api.OpAdd, 9, 0))),
		"two around each other alone":         behind(class(9, do(api.OpNeg, 10)), class(10, do(api.OpNeg, 9))),
		"an operator over nothing":            behind(class(9, do(api.OpNeg, 9)), class(10, do(api.OpNot, 9))),
		"a ring that has lost its leaf":       func(p *api.Picture) { p.Classes[7].Nodes = p.Classes[7].Nodes[1:] },
		"Size 0":                              size(0, 0),
		"Size -1":                             size(0, -1),
		"a leaf of Size 2":                    size(3, 2),
		"a Size that is too small":            size(4, 1),
		"a last Size that is too small":       size(8, 3),
		"a Size that is too great":            size(6, 4),
		"a last Size that is too great":       size(8, 5),
		"the Size of another node":            size(7, 9),
		"Sizes that fit each other":           func(p *api.Picture) { p.Classes[7].Size, p.Classes[8].Size = 4, 5 },
		"Size MaxSize":                        size(8, api.MaxSize),
		"a Size far above":                    size(8, math.MaxInt),
		"a Size far below":                    size(8, math.MinInt),
		"Sizes that wrap round":               func(p *api.Picture) { p.Classes[7].Size, p.Classes[8].Size = math.MaxInt, math.MinInt },
		"literals about":                      about(0, 1),
		"a variable ahead of a literal":       about(1, 2),
		"variables about":                     about(2, 3),
		"operators of one size about":         about(4, 5),
		"parts about":                         about(6, 7),
		"sizes about":                         about(5, 6),
		"the first and the last about":        about(0, 8),
		"all classes turned round":            func(p *api.Picture) { *p = renumbered(*p, []int{8, 7, 6, 5, 4, 3, 2, 1, 0}) },
		"leaves of a class about":             turned(2, 0, 1),
		"a leaf behind an operator":           turned(2, 1, 2),
		"operators of a class about":          turned(4, 1, 2),
		"kids of a class's nodes about":       turned(4, 0, 1),
		"a literal behind a variable":         last(3, lit(7)),
		"literals of a class about":           last(1, lit(0)),
		"last kids about":                     func(p *api.Picture) { last(8, do(api.OpIf, 1, 1, 1))(p); last(8, do(api.OpIf, 1, 1, 0))(p) },
	}
}

func TestCheckOfUnsoundPictures(t *testing.T) {
	if p := base(); !sound(p) {
		t.Fatal("base is not sound")
	}
	accepted(t, "base", base())
	for what, spoil := range spoils() {
		p := base()
		spoil(&p)
		if sound(p) {
			t.Errorf("%s is sound", what)
		}
		refused(t, what, p)
	}
	refused(t, "a root of nothing", api.Picture{Roots: []int{0}})
	refused(t, "a class of nothing", pic(api.Class{}))
}

func TestCheckAboutTheLimits(t *testing.T) {
	p := pairs(api.MaxClasses)
	last := &p.Classes[api.MaxClasses-1]
	last.Nodes = append(last.Nodes, vari("a"))
	refused(t, "MaxNodes+1 nodes", p)
	p = pairs(api.MaxClasses)
	p.Classes[5].Nodes = p.Classes[5].Nodes[:1]
	accepted(t, "MaxClasses classes", p)
	p.Classes = append(p.Classes, class(1, vari("a")))
	refused(t, "MaxClasses+1 classes", p)
	refused(t, "MaxNodes+1 nodes in one class", heap(api.MaxNodes+1))
	refused(t, "a million classes", api.Picture{Classes: make([]api.Class, 1<<20)})

	p = tower(vari("a"), 29)
	if is := p.Classes[29].Size; is != api.MaxSize-1 {
		t.Fatalf("the greatest Size is %d", is)
	}
	refused(t, "a Size above MaxSize", tower(vari("a"), 30))
	p.Classes = append(p.Classes, class(api.MaxSize, do(api.OpNeg, 29)))
	refused(t, "Size MaxSize", p)
	p.Classes[30].Size = api.MaxSize - 1
	refused(t, "Size MaxSize, told as less", p)
	p = tower(vari("a"), 29)
	p.Classes[0].Nodes = append(p.Classes[0].Nodes, do(api.OpNeg, 29))
	accepted(t, "a node of MaxSize beside a leaf", p)
}

// spoilOne changes one thing in a picture.
func spoilOne(r *rand.Rand, p *api.Picture) {
	if len(p.Classes) == 0 {
		return
	}
	c, other := &p.Classes[r.Intn(len(p.Classes))], &p.Classes[r.Intn(len(p.Classes))]
	if len(c.Nodes) == 0 {
		return
	}
	at := r.Intn(len(c.Nodes))
	n := &c.Nodes[at]
	some := func() int { return r.Intn(len(p.Classes)+2) - 1 }
	switch r.Intn(10) {
	case 0:
		c.Size += 1 - 2*r.Intn(2)
	case 1:
		*c, *other = *other, *c
	case 2:
		if sound(*p) {
			*p = swapped(*p, r.Intn(len(p.Classes)), r.Intn(len(p.Classes)))
		}
	case 3:
		other.Nodes = append(other.Nodes, *n)
		slices.SortFunc(other.Nodes, nodeOrder)
	case 4:
		c.Nodes = slices.Delete(c.Nodes, at, at+1)
	case 5:
		n.Op += 1 - 2*r.Intn(2)
	case 6:
		n.N += int64(r.Intn(3))
	case 7:
		n.Name = []string{"", "a", "b", "aa", "é", "z", "9"}[r.Intn(7)]
	case 8:
		if len(n.Kids) > 0 {
			n.Kids[r.Intn(len(n.Kids))] = some()
		}
	case 9:
		p.Roots = append(p.Roots, some())
	}
}

// TestCheckByChance: random pictures, as they are and with things changed in them, against the second reckoning.
func TestCheckByChance(t *testing.T) {
	r := rand.New(rand.NewSource(1201))
	many := [2]int{}
	for round := range 6000 {
		p := chance(r, 1+r.Intn(14), round%2*(1+r.Intn(3)), fewLeaves, opsOf(round))
		accepted(t, text(p), p)
		for range 1 + r.Intn(2) {
			spoilOne(r, &p)
		}
		if sound(p) {
			accepted(t, text(p), p)
			many[0]++
		} else {
			refused(t, text(p), p)
			many[1]++
		}
	}
	if many[0] < 300 || many[1] < 2000 {
		t.Errorf("%d sound and %d unsound pictures", many[0], many[1])
	}
}

// TestCheckOfGraphs: what layer 11 answers is sound.
func TestCheckOfGraphs(t *testing.T) {
	for _, lines := range [][]string{{}, {"a"}, {"a+1", "a = b"}, {"a = -a"}, {"a = a+1", "b*c = a", "a+1+1"}, {"a*b - c", "a = c", "-(a*b)", "b = a*b"}} {
		p := told(t, lines...)
		accepted(t, text(p), p)
	}
}

// P12.2

// located holds Class against the class that represents an expression, or -1.
func located(t *testing.T, p api.Picture, e []api.Node, want int) {
	t.Helper()
	at, bad := picture.Class(p, e)
	if want >= 0 && (at != want || bad != api.OK) || want < 0 && (at != 0 || bad != api.ErrNone) {
		t.Fatalf("Class(%s, %v) = %d, %d, want %d", text(p), e, at, bad, want)
	}
}

func TestClass(t *testing.T) {
	p := base()
	for s, want := range map[string]int{
		"-1": 0, "1": 1, "a": 2, "b": 2, "a+1": 2, "b+1+1+1": 2, "c": 3,
		"-a": 4, "-b": 4, "-(b+1)": 4, "-c": 4, "-1 - a": 4, "-1 - (b+1)": 4, "~c": 5,
		"a-c": 6, "(b+1)-c": 6, "-1 ? 1 : b": 6, "c-a": 7, "-(c-a) * -(c-(b+1))": 7, "-(-(c-a) * -(c-b))": 8, "-(c-b)": 8,
		"0": -1, "2": -1, "-2": -1, "d": -1, "A": -1, "ab": -1, "-(1)": -1, "~a": -1, "-(-a)": -1, "~~c": -1,
		"1+a": -1, "a+b": -1, "a+2": -1, "c+1": -1, "1 ? 1 : b": -1, "-1 ? -1 : b": -1, "-1 ? 1 : c": -1, "a*b": -1, "c*a": -1,
		"-(c-a) * (c-a)": -1, "(c-a) * -(c-a)": -1, "-d": -1, "d+1": -1, "(c-d) * (c-d)": -1,
	} {
		located(t, p, read(t, s), want)
	}
	for _, s := range []string{"a", "1", "-a", "a ? b : c"} {
		located(t, api.Picture{}, read(t, s), -1)
	}
}

// TestClassOfWhatIsGreat: expressions of MaxTerm nodes, in a class around itself, and in a class each; classes above MaxTerm are no expression's.
func TestClassOfWhatIsGreat(t *testing.T) {
	e := []api.Node{vari("v")}
	ring := pic(class(1, vari("v"), do(api.OpNeg, 1)), class(2, do(api.OpNeg, 0)))
	for len(e) <= api.MaxTerm {
		located(t, line(200), e, len(e)-1)
		located(t, line(len(e)), e, len(e)-1)
		located(t, ring, e, (len(e)+1)%2)
		if len(e) > 1 {
			located(t, line(len(e)-1), e, -1)
		}
		e = append(e, do(api.OpNeg, len(e)-1))
	}
	if at, bad := picture.Class(line(200), e); at != 0 || bad != api.ErrForm {
		t.Errorf("Class of MaxTerm+1 nodes: %d, %d", at, bad)
	}
	located(t, pairs(api.MaxClasses), []api.Node{lit(api.MaxNodes - 1)}, api.MaxClasses-1)
	located(t, pairs(api.MaxClasses), []api.Node{lit(api.MaxNodes)}, -1)
	located(t, heap(api.MaxNodes), []api.Node{lit(api.MaxNodes - 1)}, 0)
	located(t, tower(vari("a"), 29), read(t, "a+a+(a+a)"), 2)
	located(t, tower(vari("a"), 29), read(t, "a+a+a"), -1)
}

// TestClassByChance: of small expressions, and of the least ones that all nodes come to.
func TestClassByChance(t *testing.T) {
	r := rand.New(rand.NewSource(1202))
	many := [2]int{}
	for round := range 90 {
		ops := opsOf(round)
		all := slices.Concat(every(3, fewLeaves, ops)...)
		p := chance(r, 8, 0, fewLeaves, ops)
		for range 100 {
			e := all[r.Intn(len(all))]
			at := where(p, e)
			located(t, p, e, at)
			if at >= 0 {
				many[0]++
			} else {
				many[1]++
			}
		}
		x := ranked(nodesOf(p))
		for c := range p.Classes {
			for _, n := range p.Classes[c].Nodes {
				if e := x.write(nil, n); len(e) <= api.MaxTerm {
					located(t, p, e, c)
				}
			}
		}
	}
	if many[0] < 500 || many[1] < 500 {
		t.Errorf("%d were represented, %d were not", many[0], many[1])
	}
}

// faults are lists that are not sound.
func faults() map[string][]api.Node {
	a, one := vari("a"), lit(1)
	return map[string][]api.Node{
		"nil":                     nil,
		"no nodes":                {},
		"op 0":                    {{}},
		"a hole":                  {{Op: api.OpHole, Name: "a"}},
		"a variable with N":       {{Op: api.OpVar, Name: "a", N: 1}},
		"a literal with a name":   {{Op: api.OpLit, N: 1, Name: "a"}},
		"a name that is none":     {vari("3"), do(api.OpNeg, 0)},
		"an operator with N":      {a, {Op: api.OpNeg, N: 1, Kids: []int{0}}},
		"too few parts":           {a, do(api.OpAdd, 0)},
		"too many parts":          {a, one, do(api.OpNeg, 0, 1)},
		"parts about":             {one, a, do(api.OpAdd, 1, 0)},
		"a part twice":            {a, do(api.OpAdd, 0, 0)},
		"itself as a part":        {do(api.OpNeg, 0)},
		"part -1":                 {a, do(api.OpNeg, -1)},
		"a part far above":        {a, do(api.OpNeg, math.MaxInt)},
		"a part far below":        {a, do(api.OpNeg, math.MinInt)},
		"two wholes":              {a, one},
		"a node that is no part":  {one, a, do(api.OpNeg, 1)},
		"nowhere, and not sound":  {vari("nowhere"), do(api.OpAdd, 0)},
		"a node of a picture":     {do(api.OpAdd, 2, 1)},
		"far more nodes than fit": slices.Repeat([]api.Node{a}, 1<<16),
	}
}

func TestClassOfWhatIsNotSound(t *testing.T) {
	for what, e := range faults() {
		for _, p := range []api.Picture{base(), {}, line(3)} {
			if at, bad := picture.Class(p, e); at != 0 || bad != api.ErrForm {
				t.Errorf("Class, %s: %d, %d", what, at, bad)
			}
		}
	}
}

// P12.3

// sameList tells whether two expressions are the same.
func sameList(a, b []api.Node) bool {
	return slices.EqualFunc(a, b, func(x, y api.Node) bool { return nodeOrder(x, y) == 0 })
}

// least holds Least against the least expression of a class.
func least(t *testing.T, p api.Picture, c int, want []api.Node) {
	t.Helper()
	e, bad := picture.Least(p, c)
	if bad != api.OK || !sameList(e, want) {
		t.Fatalf("Least(%s, %d) = %v, %d, want %v", text(p), c, e, bad, want)
	}
}

func TestLeast(t *testing.T) {
	for c, s := range []string{"-1", "1", "a", "c", "-a", "~c", "a-c", "c-a", "-(c-a)"} {
		least(t, base(), c, read(t, s))
	}
}

// TestLeastOfSeveral: nodes of one class that come to the same size, told apart by each thing that the order asks.
func TestLeastOfSeveral(t *testing.T) {
	for _, c := range []struct {
		lines []string
		s     string
	}{
		{[]string{"5 = -5", "5 = x"}, "-5"},
		{[]string{"b = ab", "b = aa", "b = é"}, "aa"},
		{[]string{"~a = -b"}, "-b"},
		{[]string{"~a = ~b"}, "~a"},
		{[]string{"x+y = y+x", "x+y = y+y"}, "x+y"},
		{[]string{"x-y = x-z", "x-z = x-5"}, "x-5"},
		{[]string{"~(~a) = x*x"}, "~(~a)"},
		{[]string{"~(~a) = x+x"}, "~(~a)"},
		{[]string{"x+x = x-x"}, "x+x"},
		{[]string{"x+-y = -y+x"}, "x+-y"},
		{[]string{"-y+x = ~x+5", "-y+x = -z+1"}, "-y+x"},
		{[]string{"a ? b : c = a ? c : b", "a ? b : c = a ? b : d"}, "a ? b : c"},
		{[]string{"a-(b*c) = (b*c)-a"}, "a-(b*c)"},
		{[]string{"(b*c)-a = (a*d)-a", "(b*c)-a = (b+d)-a"}, "(b+d)-a"},
		// By the least expressions of the parts, however the parts are numbered ahead of a merge.
		{[]string{"-x = -y", "y = 0"}, "-(0)"},
		{[]string{"z+z = x+y", "z = 3+3"}, "x+y"},
		{[]string{"-(p*q) = ~(q*p)", "q*p = 1"}, "~1"},
	} {
		p := told(t, c.lines...)
		a, _, _ := strings.Cut(c.lines[0], " = ")
		least(t, p, where(p, read(t, a)), read(t, c.s))
	}
}

// TestLeastAboutMaxTerm: a class of Size MaxTerm has one that can be told, a greater one has none.
func TestLeastAboutMaxTerm(t *testing.T) {
	tooGreat := func(p api.Picture, c int) {
		t.Helper()
		if e, bad := picture.Least(p, c); len(e) != 0 || bad != api.ErrLarge {
			t.Fatalf("Least of Size %d: %v, %d", p.Classes[c].Size, e, bad)
		}
	}
	p := line(200)
	x := ranked(nodesOf(p))
	for c := range p.Classes {
		if c < api.MaxTerm {
			least(t, p, c, x.leastOf(c))
		} else {
			tooGreat(p, c)
		}
	}
	p = tower(vari("a"), 29)
	x = ranked(nodesOf(p))
	for c := range p.Classes {
		if c < 6 {
			least(t, p, c, x.leastOf(c))
		} else {
			tooGreat(p, c)
		}
	}
	// A small class with a node above a great one.
	p.Classes[0].Nodes = append(p.Classes[0].Nodes, do(api.OpNeg, 29))
	least(t, p, 0, read(t, "a"))
	tooGreat(p, 29)
}

func TestLeastByChance(t *testing.T) {
	r := rand.New(rand.NewSource(1203))
	many := [2]int{}
	for round := range 600 {
		p := chance(r, 20, round%2*(1+r.Intn(3)), fewLeaves, opsOf(round/2))
		x := ranked(nodesOf(p))
		for c := range p.Classes {
			if p.Classes[c].Size > api.MaxTerm {
				many[1]++
				if e, bad := picture.Least(p, c); len(e) != 0 || bad != api.ErrLarge {
					t.Fatalf("Least(%s, %d) = %v, %d", text(p), c, e, bad)
				}
				continue
			}
			many[0]++
			least(t, p, c, x.leastOf(c))
			located(t, p, x.leastOf(c), c)
		}
	}
	if many[0] < 1000 || many[1] < 100 {
		t.Errorf("%d classes with and %d without a least expression", many[0], many[1])
	}
}

// The chapter's examples.

func TestExamples(t *testing.T) {
	example := func() api.Picture {
		return pic(class(1, lit(1)), class(1, vari("a"), vari("b")), class(3, do(api.OpAdd, 1, 0)))
	}
	p := example()
	accepted(t, "example 1", p)
	for what, spoil := range map[string]func(p *api.Picture){
		"the nodes b, a":         func(p *api.Picture) { p.Classes[1] = class(1, vari("b"), vari("a")) },
		"Size 4 in class 2":      func(p *api.Picture) { p.Classes[2].Size = 4 },
		"the classes 0, 1 about": func(p *api.Picture) { p.Classes[0], p.Classes[1] = p.Classes[1], p.Classes[0] },
		"a in class 0, too":      func(p *api.Picture) { p.Classes[0] = class(1, lit(1), vari("a")) },
		"Neg of itself":          func(p *api.Picture) { p.Classes = append(p.Classes, class(4, do(api.OpNeg, 3))) },
	} {
		q := example()
		spoil(&q)
		refused(t, what, q)
	}
	located(t, p, read(t, "b+1"), 2)
	located(t, p, read(t, "c+1"), -1)
	least(t, p, 2, read(t, "a+1"))
	gives(t, p, 2, 3, "a + 1; b + 1")
	gives(t, p, 2, 2, "")
	gives(t, pic(class(1, vari("a"), do(api.OpNeg, 0))), 0, 3, "a; -a; --a")
	inside(t, told(t, "a+1"), p, true)
	inside(t, p, told(t, "a+1"), false)
}
