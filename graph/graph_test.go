package graph_test

import (
	"fmt"
	"math"
	"math/rand"
	"slices"
	"strings"
	"testing"

	"sorrel/api"
	"sorrel/env"
	"sorrel/eval"
	"sorrel/expr"
	"sorrel/graph"
	"sorrel/parse"
)

func lit(n int64) api.Node              { return api.Node{Op: api.OpLit, N: n} }
func vari(s string) api.Node            { return api.Node{Op: api.OpVar, Name: s} }
func do(op int, kids ...int) api.Node   { return api.Node{Op: op, Kids: kids} }
func list(nodes ...api.Node) []api.Node { return nodes }

// number is the expression of a literal, name that of a variable.
func number(n int) []api.Node  { return list(lit(int64(n))) }
func name(s string) []api.Node { return list(vari(s)) }

// read is the expression of a text of layer 4.
func read(t *testing.T, s string) []api.Node {
	t.Helper()
	e, at, bad := parse.Parse(s)
	if bad != api.OK {
		t.Fatalf("Parse(%q): %d at %d", s, bad, at)
	}
	return e
}

// made is an expression of an operator and parts that fit.
func made(op int, parts ...[]api.Node) []api.Node {
	e, bad := expr.Make(op, 0, "", parts...)
	if bad != api.OK {
		panic("parts that do not fit")
	}
	return e
}

// times is an operator with one part, so often around an expression.
func times(op, many int, e []api.Node) []api.Node {
	for range many {
		e = made(op, e)
	}
	return e
}

// random is an expression of just that size, of the operators and the leaves given.
func random(r *rand.Rand, size int, ops []int, leaves []api.Node) []api.Node {
	if size == 1 {
		return list(leaves[r.Intn(len(leaves))])
	}
	op := ops[r.Intn(len(ops))]
	for arities[op] >= size {
		op = ops[r.Intn(len(ops))]
	}
	var parts [][]api.Node
	left := size - 1
	for i := arities[op]; i > 1; i-- {
		k := 1 + r.Intn(left-i+1)
		parts = append(parts, random(r, k, ops, leaves))
		left -= k
	}
	return made(op, append(parts, random(r, left, ops, leaves))...)
}

// everyOp is all operators with parts, fewOps such that nodes come again often.
func everyOp() []int {
	var ops []int
	for op := api.OpNeg; op <= api.OpIf; op++ {
		ops = append(ops, op)
	}
	return ops
}

var fewOps = []int{api.OpNeg, api.OpSub}

var fewLeaves = list(lit(0), lit(-1), vari("a"), vari("b"), vari("é"))

// picture is that of a graph, of which there is one.
func picture(t *testing.T, x *graph.Graph) api.Picture {
	t.Helper()
	p, bad := x.Picture()
	if bad != api.OK {
		t.Fatalf("Picture(): %d", bad)
	}
	return p
}

// look is a graph's picture, written out.
func look(t *testing.T, x *graph.Graph) string {
	t.Helper()
	return text(picture(t, x))
}

// told is a graph of expressions, each a root; = between two: they are merged.
func told(t *testing.T, lines ...string) *graph.Graph {
	t.Helper()
	x := graph.New()
	tell(t, x, lines...)
	return x
}

func tell(t *testing.T, x *graph.Graph, lines ...string) {
	t.Helper()
	for _, s := range lines {
		a, b, merged := strings.Cut(s, " = ")
		if merged {
			merge(t, x, read(t, a), read(t, b))
		} else {
			add(t, x, read(t, a))
		}
	}
}

func add(t *testing.T, x *graph.Graph, e []api.Node) {
	t.Helper()
	if bad := x.Add(e); bad != api.OK {
		t.Fatalf("Add(%v) = %d", e, bad)
	}
}

func merge(t *testing.T, x *graph.Graph, a, b []api.Node) {
	t.Helper()
	if bad := x.Merge(a, b); bad != api.OK {
		t.Fatalf("Merge(%v, %v) = %d", a, b, bad)
	}
}

// has holds Has against what it has to answer.
func has(t *testing.T, x *graph.Graph, e []api.Node, want bool) {
	t.Helper()
	if ok, bad := x.Has(e); ok != want || bad != api.OK {
		t.Fatalf("Has(%v) = %v, %d, want %v", e, ok, bad, want)
	}
}

// equal holds Same against what it has to answer, both ways.
func equal(t *testing.T, x *graph.Graph, a, b []api.Node, want bool, wantBad api.Errno) {
	t.Helper()
	if ok, bad := x.Same(a, b); ok != want || bad != wantBad {
		t.Fatalf("Same(%v, %v) = %v, %d, want %v, %d", a, b, ok, bad, want, wantBad)
	}
	if ok, bad := x.Same(b, a); ok != want || bad != wantBad {
		t.Fatalf("Same(%v, %v) = %v, %d, want %v, %d", b, a, ok, bad, want, wantBad)
	}
}

// pair is a graph and the second reckoning of it, to which the same is told.
type pair struct {
	x *graph.Graph
	p *plain
}

func paired() pair { return pair{graph.New(), &plain{}} }

func (x pair) add(t *testing.T, e []api.Node) {
	t.Helper()
	add(t, x.x, e)
	x.p.add(e)
}

func (x pair) merge(t *testing.T, a, b []api.Node) {
	t.Helper()
	merge(t, x.x, a, b)
	x.p.merge(a, b)
}

// agree holds a graph's picture, and what is answered of expressions, against the second reckoning.
func (x pair) agree(t *testing.T, asked ...[]api.Node) {
	t.Helper()
	if is, want := look(t, x.x), text(x.p.picture()); is != want {
		t.Fatalf("the picture is %s, want %s", is, want)
	}
	class := x.p.classes()
	for i, a := range asked {
		at := x.p.find(a, class)
		has(t, x.x, a, at >= 0)
		b := asked[(i*7+1)%len(asked)]
		if to := x.p.find(b, class); at < 0 || to < 0 {
			equal(t, x.x, a, b, false, api.ErrNone)
		} else {
			equal(t, x.x, a, b, at == to, api.OK)
		}
	}
}

// P11.1

func TestNewHasNothing(t *testing.T) {
	x := graph.New()
	p, bad := x.Picture()
	if len(p.Classes) != 0 || len(p.Roots) != 0 || bad != api.OK {
		t.Errorf("Picture() = %v, %d", p, bad)
	}
	for _, e := range [][]api.Node{number(0), name("a"), read(t, "a+1")} {
		has(t, x, e, false)
		equal(t, x, e, e, false, api.ErrNone)
	}
}

// P11.2

// TestAddByChance: expressions of every size, their parts again, and which of them are represented.
func TestAddByChance(t *testing.T) {
	r := rand.New(rand.NewSource(111))
	for round := range 6 {
		ops := everyOp()
		if round%2 == 1 {
			ops = fewOps
		}
		x := paired()
		var asked [][]api.Node
		for i := range 14 {
			size := 1 + r.Intn(20)
			if i == 13 {
				size = api.MaxTerm
			}
			e := random(r, size, ops, fewLeaves)
			x.add(t, e)
			asked = append(asked, e, random(r, 1+r.Intn(5), ops, fewLeaves))
			part, _ := expr.Part(e, r.Intn(len(e)))
			x.add(t, part)
			asked = append(asked, part)
			x.agree(t, asked...)
		}
	}
}

// TestRootsComeInOrder: each Add makes one, also of what is there already; Merge, Has and Same make none.
func TestRootsComeInOrder(t *testing.T) {
	x := told(t, "a+1", "a", "a", "1", "a+1", "b")
	tell(t, x, "c = a*b")
	x.Has(read(t, "c"))
	x.Same(read(t, "c"), read(t, "b"))
	x.Add(nil)
	p := picture(t, x)
	if want := []int{4, 1, 1, 0, 4, 2}; !slices.Equal(p.Roots, want) {
		t.Errorf("roots %v, want %v, of %s", p.Roots, want, text(p))
	}
	for range 5000 {
		add(t, x, read(t, "b"))
	}
	p = picture(t, x)
	if len(p.Roots) != 5006 || p.Roots[5005] != 2 || p.Roots[0] != 4 || len(p.Classes) != 5 {
		t.Errorf("%d roots, %d classes", len(p.Roots), len(p.Classes))
	}
	tell(t, x, "b = a+1")
	if p = picture(t, x); len(p.Classes) != 4 || !slices.Equal(p.Roots[:7], []int{2, 1, 1, 0, 2, 2, 2}) {
		t.Errorf("%v of %s", p.Roots[:7], text(p))
	}
}

// TestRootsOfWhatIsRepresented: an expression that was never put in, but is represented, is a root of the class that represents it.
func TestRootsOfWhatIsRepresented(t *testing.T) {
	x := told(t, "a = a+1", "b")
	was := picture(t, x)
	tell(t, x, "a+1+1+1", "a+1")
	p := picture(t, x)
	if !slices.Equal(p.Roots, []int{2, 1, 1}) {
		t.Errorf("roots %v of %s", p.Roots, text(p))
	}
	p.Roots = was.Roots
	if text(p) != text(was) {
		t.Errorf("%s, was %s", text(p), text(was))
	}
}

// faults are lists that are not sound.
func faults() map[string][]api.Node {
	a, one := vari("a"), lit(1)
	return map[string][]api.Node{
		"nil":                      nil,
		"no nodes":                 {},
		"too many nodes":           long(api.MaxTerm + 1),
		"far too many nodes":       long(1 << 16),
		"op 0":                     list(api.Node{}),
		"op far below":             list(api.Node{Op: math.MinInt}),
		"a hole":                   list(api.Node{Op: api.OpHole, Name: "a"}),
		"a hole as a part":         list(api.Node{Op: api.OpHole, Name: "a"}, do(api.OpNeg, 0)),
		"a literal with a name":    list(api.Node{Op: api.OpLit, Name: "a"}),
		"a variable with N":        list(api.Node{Op: api.OpVar, Name: "a", N: 1}),
		"a variable without name":  list(vari("")),
		"no name in a part":        list(a, vari("3"), do(api.OpAdd, 0, 1)),
		"a bad byte in a name":     list(vari("a\xff")),
		"a name that is too long":  list(vari(strings.Repeat("x", api.MaxName+1))),
		"an operator with N":       list(a, api.Node{Op: api.OpNeg, N: 1, Kids: []int{0}}),
		"an operator with a name":  list(a, api.Node{Op: api.OpNeg, Name: "a", Kids: []int{0}}),
		"too few parts":            list(a, do(api.OpAdd, 0)),
		"too many parts":           list(a, one, do(api.OpNeg, 0, 1)),
		"parts of an if":           list(a, one, do(api.OpIf, 0, 1)),
		"parts the wrong way":      list(a, one, do(api.OpAdd, 1, 0)),
		"a part of both places":    list(a, do(api.OpAdd, 0, 0)),
		"itself as a part":         list(do(api.OpNeg, 0)),
		"a part behind it":         list(do(api.OpNeg, 1), a),
		"part -1":                  list(do(api.OpNeg, -1)),
		"a part far below":         list(a, do(api.OpNeg, math.MinInt)),
		"a part far above":         list(a, do(api.OpNeg, math.MaxInt)),
		"two wholes":               list(a, one),
		"a node that is no part":   list(a, one, do(api.OpNeg, 1)),
		"a node that is of two":    list(a, do(api.OpNeg, 0), do(api.OpNeg, 0), do(api.OpAdd, 1, 2)),
		"a fault in the last node": append(long(api.MaxTerm-1), do(api.OpNeg, api.MaxTerm-1)),
	}
}

// long is negations of a variable, of just that size; beyond MaxTerm it is a list that is not sound.
func long(size int) []api.Node {
	e := list(vari("v"))
	for len(e) < size {
		e = append(e, do(api.OpNeg, len(e)-1))
	}
	return e
}

// TestWhatIsNotSound: all calls refuse it in each place, and the graph is as it was, also beside an expression that could go in.
func TestWhatIsNotSound(t *testing.T) {
	for what, e := range faults() {
		for _, lines := range [][]string{{}, {"9"}, {"a = a+1", "-v", "v*1 + ~a"}} {
			x := told(t, lines...)
			was := look(t, x)
			fine := read(t, "fresh + 1")
			for range 2 {
				if bad := x.Add(e); bad != api.ErrForm {
					t.Errorf("Add, %s: %d", what, bad)
				}
				for _, c := range [][2][]api.Node{{e, fine}, {fine, e}, {e, e}, {e, nil}} {
					if bad := x.Merge(c[0], c[1]); bad != api.ErrForm {
						t.Errorf("Merge, %s: %d", what, bad)
					}
					if ok, bad := x.Same(c[0], c[1]); ok || bad != api.ErrForm {
						t.Errorf("Same, %s: %v, %d", what, ok, bad)
					}
				}
				if ok, bad := x.Has(e); ok || bad != api.ErrForm {
					t.Errorf("Has, %s: %v, %d", what, ok, bad)
				}
			}
			if is := look(t, x); is != was {
				t.Errorf("behind %s: %s, was %s", what, is, was)
			}
			has(t, x, fine, false)
			has(t, x, name("fresh"), false)
			add(t, x, fine)
			has(t, x, name("fresh"), true)
		}
	}
}

// P11.3

// TestMergeByChance: Add and Merge in any row, with expressions of many equal parts, against the second reckoning.
func TestMergeByChance(t *testing.T) {
	r := rand.New(rand.NewSource(112))
	for round := range 90 {
		ops, most := fewOps, 6
		switch round % 3 {
		case 1:
			ops, most = everyOp(), 9
		case 2:
			ops, most = []int{api.OpNot, api.OpIf, api.OpMul}, 7
		}
		x := paired()
		var asked [][]api.Node
		for range 14 {
			a, b := random(r, 1+r.Intn(most), ops, fewLeaves), random(r, 1+r.Intn(most), ops, fewLeaves)
			asked = append(asked, a, b, random(r, 1+r.Intn(most), ops, fewLeaves))
			if r.Intn(3) == 0 {
				x.add(t, a)
			} else {
				x.merge(t, a, b)
			}
			x.agree(t, asked...)
		}
	}
}

// TestUpwards: of each operator, in each place of its parts, by a merge ahead of both expressions, between them and behind them.
func TestUpwards(t *testing.T) {
	for _, op := range everyOp() {
		for place := range arities[op] {
			with := func(s string) []api.Node {
				parts := [][]api.Node{name("p"), name("q"), name("r")}[:arities[op]]
				parts[place] = name(s)
				return made(op, parts...)
			}
			steps := []func(x pair){
				func(x pair) { x.merge(t, name("x"), name("y")) },
				func(x pair) { x.add(t, with("x")) },
				func(x pair) { x.add(t, with("y")) },
				func(x pair) { x.add(t, with("z")) },
			}
			for _, row := range [][]int{{0, 1, 2, 3}, {1, 0, 3, 2}, {1, 2, 3, 0}, {3, 2, 0, 1}, {2, 3, 1, 0}} {
				x := paired()
				for _, i := range row {
					steps[i](x)
				}
				x.agree(t)
				equal(t, x.x, with("x"), with("y"), true, api.OK)
				equal(t, x.x, with("x"), with("z"), false, api.OK)
				x.merge(t, with("z"), with("y"))
				equal(t, x.x, with("x"), with("z"), true, api.OK)
				equal(t, x.x, name("x"), name("z"), false, api.OK)
				x.agree(t)
			}
		}
	}
}

// TestOperatorsAreNotMixed: equal parts make no two operators equal, nor parts in another order.
func TestOperatorsAreNotMixed(t *testing.T) {
	x := graph.New()
	merge(t, x, name("x"), name("y"))
	var all [][]api.Node
	for _, op := range everyOp() {
		parts := [][]api.Node{name("x"), name("u"), name("w")}[:arities[op]]
		all = append(all, made(op, parts...))
		if arities[op] > 1 {
			parts[0], parts[1] = parts[1], parts[0]
			all = append(all, made(op, parts...))
		}
	}
	all = append(all, name("x"), name("u"), name("w"), number(0), number(1))
	for _, e := range all {
		add(t, x, e)
	}
	for i, a := range all {
		for k, b := range all {
			equal(t, x, a, b, i == k, api.OK)
		}
	}
}

// TestDeep: an equality at the bottom goes up through 63 operators, one at the top does not come down.
func TestDeep(t *testing.T) {
	const top = api.MaxTerm - 1
	for _, op := range []int{api.OpNeg, api.OpNot} {
		for _, behind := range []bool{true, false} {
			x := graph.New()
			if !behind {
				merge(t, x, name("a"), name("b"))
			}
			add(t, x, times(op, top, name("a")))
			add(t, x, times(op, top, name("b")))
			add(t, x, times(op, top, name("c")))
			merge(t, x, times(op, top, name("c")), times(op, top, name("b")))
			if behind {
				merge(t, x, name("a"), name("b"))
			}
			for many := range top + 1 {
				equal(t, x, times(op, many, name("a")), times(op, many, name("b")), true, api.OK)
				equal(t, x, times(op, many, name("a")), times(op, many, name("c")), many == top, api.OK)
				if many > 0 {
					equal(t, x, times(op, many, name("a")), times(op, many-1, name("a")), false, api.OK)
				}
			}
			if p := picture(t, x); len(p.Classes) != 2*top+1 || !slices.Equal(p.Roots, []int{2 * top, 2 * top, 2 * top}) {
				t.Errorf("%d classes, roots %v", len(p.Classes), p.Roots)
			}
		}
	}
}

// TestCycles: of two equalities of a with itself under m and n operators, those under their greatest common divisor are equal to it, and no others.
func TestCycles(t *testing.T) {
	divisor := func(a, b int) int {
		for b != 0 {
			a, b = b, a%b
		}
		return a
	}
	for _, c := range [][2]int{{1, 1}, {2, 2}, {2, 3}, {4, 6}, {6, 4}, {5, 7}, {12, 18}, {21, 34}, {60, 48}, {63, 42}, {62, 63}, {1, 63}} {
		x := graph.New()
		a := name("a")
		merge(t, x, a, times(api.OpNot, c[0], a))
		merge(t, x, times(api.OpNot, c[1], a), a)
		ring := divisor(c[0], c[1])
		for many := range api.MaxTerm {
			has(t, x, times(api.OpNot, many, a), true)
			equal(t, x, times(api.OpNot, many, a), a, many%ring == 0, api.OK)
			equal(t, x, times(api.OpNot, many, a), times(api.OpNot, ring-1, a), many%ring == ring-1, api.OK)
		}
		has(t, x, times(api.OpNeg, 1, a), false)
		p := picture(t, x)
		if len(p.Classes) != ring {
			t.Fatalf("%v: %d classes", c, len(p.Classes))
		}
		for i, class := range p.Classes {
			if class.Size != i+1 || i > 0 && (len(class.Nodes) != 1 || !same(class.Nodes[0], do(api.OpNot, i-1))) {
				t.Fatalf("%v: class %d is %v", c, i, class)
			}
		}
		if first := p.Classes[0].Nodes; len(first) != 2 || !same(first[0], vari("a")) || !same(first[1], do(api.OpNot, ring-1)) {
			t.Fatalf("%v: class 0 is %v", c, first)
		}
	}
}

// TestWhateverOrder: the same expressions and pairs, told in any row and any way about, are one picture.
func TestWhateverOrder(t *testing.T) {
	r := rand.New(rand.NewSource(113))
	for range 40 {
		var pairs [][2][]api.Node
		for range 12 {
			pairs = append(pairs, [2][]api.Node{random(r, 1+r.Intn(8), fewOps, fewLeaves), random(r, 1+r.Intn(8), fewOps, fewLeaves)})
		}
		want := ""
		for range 6 {
			x := graph.New()
			for _, i := range r.Perm(len(pairs)) {
				a, b := pairs[i][0], pairs[i][1]
				switch r.Intn(3) {
				case 0:
					merge(t, x, a, b)
				case 1:
					merge(t, x, b, a)
				case 2:
					has(t, x, read(t, "nowhere"), false)
					merge(t, x, a, a)
					merge(t, x, b, b)
					picture(t, x)
					merge(t, x, b, a)
				}
			}
			is := look(t, x)
			if want == "" {
				want = is
			}
			if is != want {
				t.Fatalf("%s in one row, %s in another", is, want)
			}
		}
	}
}

// TestNothingNeedless: of expressions that are merged where they come to one number, all that are equal come to one number.
func TestNothingNeedless(t *testing.T) {
	r := rand.New(rand.NewSource(114))
	ops := []int{api.OpNeg, api.OpNot, api.OpAnd, api.OpOr, api.OpXor, api.OpEq, api.OpLt, api.OpIf, api.OpMul, api.OpSub}
	leaves := list(lit(0), lit(1), lit(-1), vari("a"), vari("b"), vari("c"))
	for range 8 {
		names, _ := env.Of(map[string]any{"a": r.Intn(3) - 1, "b": r.Intn(3) - 1, "c": r.Intn(3) - 1})
		byNumber := map[int64][]api.Node{}
		x := graph.New()
		var all [][]api.Node
		var numbers []int64
		for range 300 {
			e := random(r, 1+r.Intn(9), ops, leaves)
			n, bad := eval.Eval(e, names)
			if bad != api.OK {
				t.Fatalf("Eval(%v): %d", e, bad)
			}
			all, numbers = append(all, e), append(numbers, n)
			if other := byNumber[n]; other != nil && r.Intn(2) == 0 {
				merge(t, x, e, other)
			} else {
				add(t, x, e)
			}
			byNumber[n] = e
		}
		for i, a := range all {
			for k, b := range all {
				ok, bad := x.Same(a, b)
				if bad != api.OK || ok && numbers[i] != numbers[k] {
					t.Fatalf("Same(%v, %v) = %v, %d, though they come to %d and %d", a, b, ok, bad, numbers[i], numbers[k])
				}
			}
		}
	}
}

// TestMergeOfTheSame: it puts the expression in, and makes nothing equal.
func TestMergeOfTheSame(t *testing.T) {
	x := paired()
	x.merge(t, read(t, "a-b"), read(t, "a-b"))
	x.agree(t, read(t, "a"), read(t, "b"), read(t, "a-b"), read(t, "b-a"))
	x.merge(t, read(t, "a"), read(t, "b"))
	x.merge(t, read(t, "a-b"), read(t, "b-a"))
	x.merge(t, read(t, "a"), read(t, "b"))
	x.agree(t, read(t, "a"), read(t, "b"), read(t, "a-b"), read(t, "b-a"))
}

// TestMergePartWithWhole: each place of an expression with the whole, both ways about.
func TestMergePartWithWhole(t *testing.T) {
	e := read(t, "(a - -b) * (c ? a : -b) + ~(a - -b)")
	for at := range e {
		part, _ := expr.Part(e, at)
		for _, c := range [][2][]api.Node{{part, e}, {e, part}} {
			x := paired()
			x.add(t, e)
			x.merge(t, c[0], c[1])
			x.agree(t, e, part, made(api.OpNot, e), made(api.OpNot, part))
			x.merge(t, read(t, "-b"), read(t, "a"))
			x.agree(t, e, part, made(api.OpNot, e), made(api.OpNot, part))
		}
	}
}

// P11.4

// TestHasMoreThanWasPutIn: what is represented without having been told, up to MaxTerm nodes.
func TestHasMoreThanWasPutIn(t *testing.T) {
	x := told(t, "a = a+1", "b = -c", "a*b")
	sum := read(t, "a")
	for len(sum)+2 <= api.MaxTerm {
		sum = made(api.OpAdd, sum, read(t, "1"))
		has(t, x, sum, true)
		equal(t, x, sum, read(t, "a"), true, api.OK)
	}
	equal(t, x, made(api.OpMul, times(api.OpNeg, 1, name("c")), name("b")), read(t, "a*b"), false, api.ErrNone)
	equal(t, x, read(t, "(a+1+1)*-c"), read(t, "(a+1)*b"), true, api.OK)
	for _, s := range []string{"1+a", "a+a", "-b", "b*a", "a*c", "a-1", "2", "-a", "a+0"} {
		has(t, x, read(t, s), false)
		equal(t, x, read(t, s), read(t, "a"), false, api.ErrNone)
		equal(t, x, read(t, s), read(t, s), false, api.ErrNone)
	}
}

// TestWhichError: ErrForm counts ahead of ErrNone and of ErrLarge.
func TestWhichError(t *testing.T) {
	x := full(t)
	was := look(t, x)
	for what, e := range faults() {
		for _, other := range [][]api.Node{name("z"), number(0)} {
			if ok, bad := x.Same(e, other); ok || bad != api.ErrForm {
				t.Errorf("Same, %s: %v, %d", what, ok, bad)
			}
			if ok, bad := x.Same(other, e); ok || bad != api.ErrForm {
				t.Errorf("Same, %s: %v, %d", what, ok, bad)
			}
			if bad := x.Merge(e, other); bad != api.ErrForm {
				t.Errorf("Merge, %s: %d", what, bad)
			}
			if bad := x.Merge(other, e); bad != api.ErrForm {
				t.Errorf("Merge, %s: %d", what, bad)
			}
		}
		if bad := x.Add(e); bad != api.ErrForm {
			t.Errorf("Add, %s: %d", what, bad)
		}
	}
	if look(t, x) != was {
		t.Error("what was refused has changed the graph")
	}
}

// The limits of P11.2 and P11.3

// counts holds how many classes and nodes a graph's picture has.
func counts(t *testing.T, x *graph.Graph, classes, nodes int) {
	t.Helper()
	p := picture(t, x)
	many := 0
	for _, c := range p.Classes {
		many += len(c.Nodes)
	}
	if len(p.Classes) != classes || many != nodes {
		t.Fatalf("%d classes, %d nodes, want %d, %d", len(p.Classes), many, classes, nodes)
	}
}

// refusedAdd and refusedMerge hold that there is no room, and that the graph is as it was.
func refusedAdd(t *testing.T, x *graph.Graph, e []api.Node) {
	t.Helper()
	was := look(t, x)
	if bad := x.Add(e); bad != api.ErrLarge {
		t.Fatalf("Add(%v) = %d", e, bad)
	}
	has(t, x, e, false)
	if look(t, x) != was {
		t.Fatalf("Add(%v), which was refused, has changed the graph", e)
	}
}

func refusedMerge(t *testing.T, x *graph.Graph, a, b []api.Node) {
	t.Helper()
	was := look(t, x)
	if bad := x.Merge(a, b); bad != api.ErrLarge {
		t.Fatalf("Merge(%v, %v) = %d", a, b, bad)
	}
	if ok, bad := x.Same(a, b); ok || bad != api.ErrNone {
		t.Fatalf("Same(%v, %v) = %v, %d, where there was no room", a, b, ok, bad)
	}
	if look(t, x) != was {
		t.Fatalf("Merge(%v, %v), which was refused, has changed the graph", a, b)
	}
}

// filled is a graph of so many literals, from 0 on.
func filled(t *testing.T, many int) *graph.Graph {
	t.Helper()
	x := graph.New()
	for i := range many {
		add(t, x, number(i))
	}
	return x
}

// full is a graph of MaxClasses classes, each of a literal.
func full(t *testing.T) *graph.Graph { return filled(t, api.MaxClasses) }

// heap is a graph of one class of so many literals, from 0 on.
func heap(t *testing.T, many int) *graph.Graph {
	t.Helper()
	x := graph.New()
	for i := range many {
		merge(t, x, number(i), number(0))
	}
	return x
}

func TestAddAboutMaxClasses(t *testing.T) {
	x := full(t)
	counts(t, x, api.MaxClasses, api.MaxClasses)
	for range 2 {
		for _, e := range [][]api.Node{number(-1), number(api.MaxClasses), name("a"), read(t, "-(1)"), read(t, "1+2"), read(t, "a*a + a*a"), long(api.MaxTerm)} {
			refusedAdd(t, x, e)
		}
	}
	for _, n := range []int{0, 5, api.MaxClasses - 1} {
		add(t, x, number(n))
	}
	p := picture(t, x)
	if tail := p.Roots[api.MaxClasses:]; !slices.Equal(tail, []int{0, 5, api.MaxClasses - 1}) {
		t.Errorf("roots %v", tail)
	}

	// One class fewer, and there is room for one.
	merge(t, x, number(7), number(1))
	counts(t, x, api.MaxClasses-1, api.MaxClasses)
	refusedAdd(t, x, read(t, "a+1"))
	add(t, x, read(t, "1+2"))
	counts(t, x, api.MaxClasses, api.MaxClasses+1)
	refusedAdd(t, x, read(t, "2+1"))
	add(t, x, read(t, "7+2"))
	counts(t, x, api.MaxClasses, api.MaxClasses+1)
}

// TestRoomForWhatIsLacking: parts that are there, that come twice, and that are equal to each other without being the same, need no room of their own.
func TestRoomForWhatIsLacking(t *testing.T) {
	for _, c := range []struct {
		lines []string
		s     string
		need  int
	}{
		{nil, "a", 1},
		{nil, "1", 0},
		{nil, "a*a + a*a", 3},
		{nil, "1*2 + 1*2", 2},
		{nil, "(1+2) * (2+1)", 3},
		{nil, "a ? ~a : ~~a", 4},
		{[]string{"1 = 2"}, "(1+3) * (2+3)", 2},
		{[]string{"1 = 2", "3 = 4"}, "(1-3) * (2-4) + (1-4) * (2-3)", 3},
		{[]string{"a = a+1"}, "(a+1+1+1) * 2", 1},
		{[]string{"a = b"}, "(-a - b) * (-b - a)", 3},
		{[]string{"a = b"}, "-a == -b", 2},
	} {
		for _, room := range []int{c.need, c.need - 1} {
			if room < 0 {
				continue
			}
			x := filled(t, 10)
			tell(t, x, c.lines...)
			for i := range api.MaxClasses - room - len(picture(t, x).Classes) {
				add(t, x, number(10+i))
			}
			if room < c.need {
				refusedAdd(t, x, read(t, c.s))
				refusedMerge(t, x, read(t, c.s), read(t, c.s))
				refusedMerge(t, x, number(1), read(t, c.s))
				continue
			}
			y := x.Copy()
			add(t, x, read(t, c.s))
			merge(t, y, read(t, c.s), number(0))
			p := picture(t, x)
			if len(p.Classes) != api.MaxClasses {
				t.Errorf("%s: %d classes", c.s, len(p.Classes))
			}
			has(t, y, read(t, c.s), true)
		}
	}
}

// TestMergeAboutMaxClasses: what counts is the picture without the merging.
func TestMergeAboutMaxClasses(t *testing.T) {
	x := filled(t, api.MaxClasses-2)
	merge(t, x, name("a"), name("b")) // Together they fill it, though one class comes of them.
	counts(t, x, api.MaxClasses-1, api.MaxClasses)
	refusedMerge(t, x, name("c"), name("d"))
	refusedMerge(t, x, name("c"), read(t, "-c"))
	refusedMerge(t, x, read(t, "a+1"), read(t, "1+a"))
	merge(t, x, name("c"), name("b"))
	merge(t, x, name("d"), name("d"))
	counts(t, x, api.MaxClasses, api.MaxClasses+2)
	refusedMerge(t, x, name("e"), name("a"))
	refusedMerge(t, x, name("a"), name("e"))
	refusedMerge(t, x, name("e"), name("e"))
	merge(t, x, name("a"), name("c"))
	counts(t, x, api.MaxClasses, api.MaxClasses+2)
	merge(t, x, name("a"), name("d"))
	counts(t, x, api.MaxClasses-1, api.MaxClasses+2)
	merge(t, x, name("e"), name("a"))
	refusedMerge(t, x, name("f"), name("g"))
	merge(t, x, read(t, "a+1"), read(t, "b+1")) // One node.
	counts(t, x, api.MaxClasses, api.MaxClasses+4)
	refusedMerge(t, x, read(t, "1+a"), read(t, "1+b"))
}

func TestAddAboutMaxNodes(t *testing.T) {
	x := heap(t, api.MaxNodes-3)
	counts(t, x, 1, api.MaxNodes-3)
	refusedAdd(t, x, read(t, "a*b - a"))
	add(t, x, read(t, "a*a - a"))
	counts(t, x, 4, api.MaxNodes)
	for range 2 {
		for _, e := range [][]api.Node{number(-1), number(api.MaxNodes), name("b"), read(t, "-a"), read(t, "a+1"), long(api.MaxTerm)} {
			refusedAdd(t, x, e)
		}
		add(t, x, number(api.MaxNodes-4))
		add(t, x, read(t, "a*a"))
	}
	merge(t, x, name("a"), number(0)) // It takes no node away.
	counts(t, x, 3, api.MaxNodes)
	refusedAdd(t, x, name("b"))
	// a*a and a*a - a are one class with a then, so that all nodes are the same as ahead.
	merge(t, x, read(t, "a*a"), name("a"))
	counts(t, x, 2, api.MaxNodes)
	refusedAdd(t, x, name("b"))
	add(t, x, read(t, "((a*1)*2 - 3)"))
	counts(t, x, 2, api.MaxNodes)
}

// TestMergeAboutMaxNodes: what counts is the picture without the merging, though a merging may take nodes away.
func TestMergeAboutMaxNodes(t *testing.T) {
	x := heap(t, api.MaxNodes-6)
	tell(t, x, "-a", "-b")
	counts(t, x, 5, api.MaxNodes-2)
	refusedMerge(t, x, read(t, "~a"), read(t, "~~b"))
	refusedMerge(t, x, read(t, "x"), read(t, "y+z"))
	merge(t, x, read(t, "x"), read(t, "y"))
	counts(t, x, 6, api.MaxNodes)
	refusedMerge(t, x, name("z"), name("z"))
	refusedMerge(t, x, name("z"), name("a"))
	merge(t, x, name("a"), name("b")) // -a and -b are one node.
	counts(t, x, 4, api.MaxNodes-1)
	refusedMerge(t, x, name("z"), name("w"))
	refusedMerge(t, x, read(t, "~a"), read(t, "~~b"))
	merge(t, x, read(t, "~a"), read(t, "~b"))
	counts(t, x, 5, api.MaxNodes)
	refusedMerge(t, x, name("z"), name("a"))
	refusedAdd(t, x, name("z"))
}

// TestRoomAgain: classes and nodes that mergings take away leave room.
func TestRoomAgain(t *testing.T) {
	const many = api.MaxClasses / 4
	x := graph.New()
	v := func(i int) []api.Node { return name(fmt.Sprint("v", i)) }
	for i := range many {
		add(t, x, times(api.OpNeg, 3, v(i)))
	}
	counts(t, x, 4*many, 4*many)
	refusedAdd(t, x, v(many))
	for i := range many {
		merge(t, x, v(i), v(many-1-i))
	}
	counts(t, x, 2*many, many+3*many/2)
	for i := range many {
		merge(t, x, v(i/2), v(i))
	}
	counts(t, x, 4, many+3)
	for i := range api.MaxClasses - 4 {
		add(t, x, number(i))
	}
	refusedAdd(t, x, number(-1))
	counts(t, x, api.MaxClasses, api.MaxClasses-4+many+3)
}

// comb is an operator with two parts, around itself and a leaf, as often as there is room.
func comb(op int, leaf api.Node) []api.Node {
	e := list(leaf)
	for len(e)+2 <= api.MaxTerm {
		e = append(e, leaf, do(op, len(e)-1, len(e)))
	}
	return e
}

// TestMoreThanATableHolds: expressions come and become one with others for so long that all that ever were are more than MaxIds.
func TestMoreThanATableHolds(t *testing.T) {
	ops := []int{api.OpAdd, api.OpSub, api.OpMul, api.OpAnd, api.OpOr, api.OpXor}
	x := graph.New()
	zero := name("zero")
	add(t, x, zero)
	many := 0
	for i := 0; many <= api.MaxIds+api.MaxIds/8; i++ {
		v := name(fmt.Sprint("v", i))
		for _, op := range ops {
			e := comb(op, v[0])
			many += len(e) / 2
			add(t, x, e)
			merge(t, x, made(op, v, v), v)
			if i%64 == 0 {
				equal(t, x, e, v, true, api.OK)
				equal(t, x, e, zero, false, api.OK)
			}
		}
		merge(t, x, v, zero)
		if i%512 == 0 {
			counts(t, x, 1, i+2+len(ops))
		}
	}
	p := picture(t, x)
	if len(p.Classes) != 1 || p.Classes[0].Size != 1 {
		t.Errorf("%d classes", len(p.Classes))
	}
	for _, root := range p.Roots {
		if root != 0 {
			t.Fatalf("root %d", root)
		}
	}
	has(t, x, read(t, "v0 + v1 * (zero - v2)"), true)
	has(t, x, read(t, "v0 / v1"), false)
}

// The chapter's examples.

func TestExamples(t *testing.T) {
	x := told(t, "a+1", "a")
	if is, want := look(t, x), "0: 1/1/[] size 1; 1: 2/0/a[] size 1; 2: 5/0/[1 0] size 3; [2 1]"; is != want {
		t.Errorf("%s, want %s", is, want)
	}
	tell(t, x, "b+1", "a = b")
	if is, want := look(t, x), "0: 1/1/[] size 1; 1: 2/0/a[] 2/0/b[] size 1; 2: 5/0/[1 0] size 3; [2 1 2]"; is != want {
		t.Errorf("%s, want %s", is, want)
	}
	x = told(t, "a = a+1")
	if is, want := look(t, x), "0: 1/1/[] size 1; 1: 2/0/a[] 5/0/[1 0] size 1; []"; is != want {
		t.Errorf("%s, want %s", is, want)
	}
	has(t, x, read(t, "((a+1)+1)+1"), true)
	x = told(t, "-a = a", "--b")
	equal(t, x, read(t, "a"), read(t, "--a"), true, api.OK)
	equal(t, x, read(t, "b"), read(t, "--b"), false, api.OK)
	equal(t, x, read(t, "a"), read(t, "c"), false, api.ErrNone)
}
