package box_test

import (
	"fmt"
	"iter"
	"math"
	"math/rand"
	"runtime"
	"slices"
	"strings"
	"testing"

	"sorrel/api"
	"sorrel/box"
)

// both is an expression in both shapes, the one put together beside the other: t as a term, e as a list of nodes, and all: the terms of all its nodes, in the order of the nodes.
type both struct {
	t   api.Term
	e   []api.Node
	all []api.Term
}

func lit(n int64) both   { return leaf(api.Lit{N: n}, api.Node{Op: api.OpLit, N: n}) }
func vari(s string) both { return leaf(api.Var{Name: s}, api.Node{Op: api.OpVar, Name: s}) }

func leaf(t api.Term, n api.Node) both { return both{t, []api.Node{n}, []api.Term{t}} }

func un(op int, a both) both     { return join(api.Un{Op: op, A: a.t}, op, a) }
func bin(op int, a, b both) both { return join(api.Bin{Op: op, A: a.t, B: b.t}, op, a, b) }
func cond(c, a, b both) both     { return join(api.If{C: c.t, A: a.t, B: b.t}, api.OpIf, c, a, b) }

func join(t api.Term, op int, parts ...both) both {
	x := both{t: t}
	var kids []int
	for _, p := range parts {
		first := len(x.e)
		for _, n := range p.e {
			var moved []int
			for _, kid := range n.Kids {
				moved = append(moved, kid+first)
			}
			n.Kids = moved
			x.e = append(x.e, n)
		}
		x.all = append(x.all, p.all...)
		kids = append(kids, len(x.e)-1)
	}
	x.e = append(x.e, api.Node{Op: op, Kids: kids})
	x.all = append(x.all, t)
	return x
}

// random is an expression of just that size.
func random(r *rand.Rand, size int) both {
	names := []string{"a", "b", "é", "x₂", "名", "\U00010400", "größe3"}
	numbers := []int64{0, 1, -1, 7, math.MinInt64, math.MaxInt64}
	switch kind := r.Intn(3); {
	case size == 1 && kind == 0:
		return lit(numbers[r.Intn(len(numbers))])
	case size == 1:
		return vari(names[r.Intn(len(names))])
	case size == 2 || kind == 0:
		return un(api.OpNeg+r.Intn(2), random(r, size-1))
	case size == 3 || kind == 1:
		k := 1 + r.Intn(size-2)
		return bin(api.OpAdd+r.Intn(12), random(r, k), random(r, size-1-k))
	}
	k := 1 + r.Intn(size-3)
	l := 1 + r.Intn(size-2-k)
	return cond(random(r, k), random(r, l), random(r, size-1-k-l))
}

// long is an expression of just that size: negations of a variable.
func long(size int) both {
	x := vari("v")
	for len(x.e) < size {
		x = un(api.OpNeg, x)
	}
	return x
}

// sound has expressions of every operator, of every size, and at the edges.
func sound() []both {
	a, b, c := vari("a"), un(api.OpNeg, lit(5)), bin(api.OpSub, lit(-1), vari("c"))
	l := []both{
		lit(0), lit(1), lit(math.MinInt64), lit(math.MaxInt64),
		vari("x₂"), vari("_"), vari(strings.Repeat("é", api.MaxName)), vari(strings.Repeat("\U00010400", api.MaxName)),
		un(api.OpNeg, b), un(api.OpNot, c), cond(a, b, c), cond(c, a, b), cond(b, c, a),
		// One part in several places.
		bin(api.OpAdd, c, c), cond(b, b, b), cond(c, bin(api.OpMul, c, c), c),
		// The greatest, leaning to each side.
		bin(api.OpDiv, long(api.MaxTerm-2), a), bin(api.OpDiv, a, long(api.MaxTerm-2)),
		cond(long(api.MaxTerm-3), a, a), cond(a, long(api.MaxTerm-3), a), cond(a, a, long(api.MaxTerm-3)),
		cond(long(21), long(21), long(21)),
	}
	for op := api.OpAdd; op <= api.OpLt; op++ {
		l = append(l, bin(op, a, b), bin(op, c, a))
	}
	r := rand.New(rand.NewSource(1))
	for size := 1; size <= api.MaxTerm; size++ {
		l = append(l, long(size))
		for range 20 {
			l = append(l, random(r, size))
		}
	}
	return l
}

// Types that keep to the interface, and are none of api's.
type (
	twin   api.Lit             // alike, but another type
	inside struct{ api.Lit }   // by what is embedded
	around struct{ termed }    // by an interface that is embedded
	termed interface{ Term() } // api's, by another name
	row    []int               // values that cannot be compared
	call   func()              // neither can these
	angry  struct{ A api.Var } // its method panics
)

func (twin) Term()  {}
func (row) Term()   {}
func (call) Term()  {}
func (angry) Term() { panic("Term is called") }

// strangers: values of the interface that are of none of the five kinds.
func strangers() map[string]api.Term {
	a, one := api.Var{Name: "a"}, api.Lit{N: 1}
	ring := &api.Un{Op: api.OpNeg}
	ring.A = ring
	return map[string]api.Term{
		"nil":                     nil,
		"pointer to Lit":          &one,
		"pointer to Var":          &a,
		"pointer to Un":           &api.Un{Op: api.OpNeg, A: a},
		"pointer to Bin":          &api.Bin{Op: api.OpAdd, A: a, B: a},
		"pointer to If":           &api.If{C: a, A: a, B: a},
		"pointer round to itself": ring,
		"nil pointer to Lit":      (*api.Lit)(nil),
		"nil pointer to Var":      (*api.Var)(nil),
		"nil pointer to Un":       (*api.Un)(nil),
		"nil pointer to Bin":      (*api.Bin)(nil),
		"nil pointer to If":       (*api.If)(nil),
		"twin":                    twin{N: 1},
		"inside":                  inside{one},
		"around a Lit":            around{one},
		"around nil":              around{},
		"row":                     row{1, 2},
		"nil row":                 row(nil),
		"call":                    call(func() { panic("called") }),
		"angry":                   angry{a},
	}
}

// faults: terms that are not sound.
func faults() map[string]api.Term {
	var a api.Term = api.Var{Name: "a"}
	l := map[string]api.Term{
		"65 nodes in a row":           long(api.MaxTerm + 1).t,
		"65 nodes, deep on the left":  api.Bin{Op: api.OpAdd, A: long(63).t, B: a},
		"65 nodes, deep on the right": api.Bin{Op: api.OpAdd, A: a, B: long(63).t},
		"65 nodes under an If":        api.If{C: long(21).t, A: long(21).t, B: long(22).t},
		"128 nodes in two":            api.Bin{Op: api.OpAdd, A: long(64).t, B: long(63).t},
		"65536 nodes in a row":        chain(1<<16, a),
		"a nil far down":              chain(1<<16, nil),
		"a tree of 2^60 nodes":        doubled(60, a),
		"2^60 times nil":              doubled(60, nil),
		"3^40 nodes":                  tripled(40, a),
	}
	for what, x := range strangers() {
		l[what] = x
		l[what+" in an Un"] = api.Un{Op: api.OpNeg, A: x}
		l[what+" in a Bin's A"] = api.Bin{Op: api.OpAdd, A: x, B: a}
		l[what+" in a Bin's B"] = api.Bin{Op: api.OpAdd, A: a, B: x}
		l[what+" in an If's C"] = api.If{C: x, A: a, B: a}
		l[what+" in an If's A"] = api.If{C: a, A: x, B: a}
		l[what+" in an If's B"] = api.If{C: a, A: a, B: x}
		l[what+" at a depth of 63"] = chain(63, x)
	}
	for _, name := range []string{"", "3", "₂x", "a b", "a+b", "\xff", "a\xff", "\ufffd", strings.Repeat("é", api.MaxName+1), strings.Repeat("a", 1<<20)} {
		l[fmt.Sprintf("name %.40q", name)] = api.Var{Name: name}
		l[fmt.Sprintf("name %.40q inside", name)] = api.Bin{Op: api.OpAdd, A: a, B: api.Un{Op: api.OpNot, A: api.Var{Name: name}}}
	}
	for op := -1; op <= 20; op++ {
		faultsOfOp(l, op)
	}
	for _, op := range []int{math.MinInt, math.MaxInt, 1<<32 + api.OpNeg, 1<<32 + api.OpAdd} {
		faultsOfOp(l, op)
	}
	return l
}

// faultsOfOp adds an Un and a Bin with an operator that has not as many parts.
func faultsOfOp(l map[string]api.Term, op int) {
	var a api.Term = api.Var{Name: "a"}
	if op != api.OpNeg && op != api.OpNot {
		l[fmt.Sprint("Un of ", op)] = api.Un{Op: op, A: a}
		l[fmt.Sprint("Un of ", op, " and nil")] = api.Un{Op: op}
		l[fmt.Sprint("Un of ", op, " inside")] = api.If{C: a, A: api.Un{Op: op, A: a}, B: a}
	}
	if op < api.OpAdd || op > api.OpLt {
		l[fmt.Sprint("Bin of ", op)] = api.Bin{Op: op, A: a, B: a}
		l[fmt.Sprint("Bin of ", op, " and nil")] = api.Bin{Op: op}
		l[fmt.Sprint("Bin of ", op, " inside")] = api.Un{Op: api.OpNeg, A: api.Bin{Op: op, A: a, B: a}}
	}
}

func chain(times int, t api.Term) api.Term {
	for range times {
		t = api.Un{Op: api.OpNeg, A: t}
	}
	return t
}

func doubled(times int, t api.Term) api.Term {
	for range times {
		t = api.Bin{Op: api.OpAdd, A: t, B: t}
	}
	return t
}

func tripled(times int, t api.Term) api.Term {
	for range times {
		t = api.If{C: t, A: t, B: t}
	}
	return t
}

// text tells two lists apart, node by node; an empty list of kids is the same as none.
func text(l []api.Node) string {
	var s strings.Builder
	for _, n := range l {
		fmt.Fprintf(&s, "%d %d %q %v; ", n.Op, n.N, n.Name, n.Kids)
	}
	return s.String()
}

// P3.1

func TestBox(t *testing.T) {
	for _, x := range sound() {
		if got, e := box.Box(x.e); got != x.t || e != api.OK {
			t.Fatalf("Box(%s) = %v, %d", text(x.e), got, e)
		}
	}
	empty := []api.Node{{Op: api.OpLit, N: 3, Kids: []int{}}}
	if got, e := box.Box(empty); got != (api.Lit{N: 3}) || e != api.OK {
		t.Errorf("Box of a literal whose kids are empty, not nil: %v, %d", got, e)
	}
}

func TestBoxNotSound(t *testing.T) {
	a, one := vari("a").e[0], lit(1).e[0]
	node := func(op int, kids ...int) api.Node { return api.Node{Op: op, Kids: kids} }
	for what, l := range map[string][]api.Node{
		"nil":                       nil,
		"no nodes":                  {},
		"65 nodes":                  long(api.MaxTerm + 1).e,
		"many nodes":                make([]api.Node, 1<<16),
		"no operator":               {{}},
		"an operator below 0":       {a, node(-3, 0)},
		"a hole":                    {{Op: api.OpHole, Name: "a"}},
		"an operator far above":     {{Op: math.MaxInt}},
		"variable without a name":   {{Op: api.OpVar}},
		"variable with a number":    {{Op: api.OpVar, Name: "3"}},
		"variable of 17 characters": {{Op: api.OpVar, Name: strings.Repeat("é", api.MaxName+1)}},
		"variable with N":           {{Op: api.OpVar, Name: "a", N: 1}},
		"variable with a bad byte":  {{Op: api.OpVar, Name: "a\xff"}},
		"literal with a name":       {{Op: api.OpLit, Name: "a"}},
		"literal with a part":       {one, node(api.OpLit, 0)},
		"operator with N":           {one, {Op: api.OpNeg, N: 1, Kids: []int{0}}},
		"operator with a name":      {one, {Op: api.OpNeg, Name: "a", Kids: []int{0}}},
		"neg without parts":         {node(api.OpNeg)},
		"neg with two parts":        {a, one, node(api.OpNeg, 0, 1)},
		"add with one part":         {a, node(api.OpAdd, 0)},
		"add with three parts":      {a, a, a, node(api.OpAdd, 0, 1, 2)},
		"if with two parts":         {a, a, node(api.OpIf, 0, 1)},
		"if with four parts":        {a, a, a, a, node(api.OpIf, 0, 1, 2, 3)},
		"parts the wrong way round": {a, one, node(api.OpAdd, 1, 0)},
		"one part twice":            {a, node(api.OpAdd, 0, 0)},
		"itself as a part":          {node(api.OpNeg, 0)},
		"a part behind it":          {node(api.OpNeg, 1), a},
		"part -1":                   {a, node(api.OpNeg, -1)},
		"a part far above":          {a, node(api.OpNeg, math.MaxInt)},
		"two wholes":                {a, one},
		"a node that is no part":    {a, one, node(api.OpNeg, 1)},
	} {
		if got, e := box.Box(l); got != nil || e != api.ErrForm {
			t.Errorf("Box of a list that is not sound (%s): %v, %d", what, got, e)
		}
	}
}

// P3.2

func TestOpen(t *testing.T) {
	for _, x := range sound() {
		if got, e := box.Open(x.t); text(got) != text(x.e) || e != api.OK {
			t.Fatalf("Open(%v) = %s, %d", x.t, text(got), e)
		}
	}
}

func TestOpenNotSound(t *testing.T) {
	for what, x := range faults() {
		if got, e := box.Open(x); len(got) != 0 || e != api.ErrForm {
			t.Errorf("Open of a term that is not sound (%s): %s, %d", what, text(got), e)
		}
	}
}

// TestThereAndBack: open of box is the expression, and box of open the term (P2).
func TestThereAndBack(t *testing.T) {
	for _, x := range sound() {
		boxed, _ := box.Box(x.e)
		if got, e := box.Open(boxed); text(got) != text(x.e) || e != api.OK {
			t.Fatalf("Open(Box(%s)) = %s, %d", text(x.e), text(got), e)
		}
		opened, _ := box.Open(x.t)
		if got, e := box.Box(opened); got != x.t || e != api.OK {
			t.Fatalf("Box(Open(%v)) = %v, %d", x.t, got, e)
		}
	}
}

// P3.3

func TestOp(t *testing.T) {
	for _, x := range sound() {
		if got := box.Op(x.t); got != x.e[len(x.e)-1].Op {
			t.Fatalf("Op(%v) = %d", x.t, got)
		}
	}
	for _, op := range []int{math.MinInt, -1, 0, api.OpLit, api.OpVar, api.OpNeg, api.OpAdd, api.OpIf, api.OpHole, 99, math.MaxInt} {
		if got := box.Op(api.Un{Op: op}); got != op {
			t.Errorf("Op of an Un of %d: %d", op, got)
		}
		if got := box.Op(api.Bin{Op: op, A: &api.Lit{}}); got != op {
			t.Errorf("Op of a Bin of %d: %d", op, got)
		}
	}
	for want, x := range map[int]api.Term{api.OpLit: api.Lit{}, api.OpVar: api.Var{}, api.OpIf: api.If{A: row{}}} {
		if got := box.Op(x); got != want {
			t.Errorf("Op(%#v) = %d", x, got)
		}
	}
	for what, x := range strangers() {
		if got := box.Op(x); got != 0 {
			t.Errorf("Op (%s): %d", what, got)
		}
	}
}

func TestParts(t *testing.T) {
	for _, x := range sound() {
		var want []api.Term
		for _, kid := range x.e[len(x.e)-1].Kids {
			want = append(want, x.all[kid])
		}
		if got := box.Parts(x.t); !slices.Equal(got, want) {
			t.Fatalf("Parts(%v) = %v", x.t, got)
		}
	}
	p, one, bad := &api.Lit{N: 1}, api.Lit{N: 1}, api.Var{Name: "3"}
	for _, c := range []struct {
		t    api.Term
		want []api.Term
	}{
		{api.Lit{}, nil},
		{api.Var{}, nil},
		{api.Un{}, []api.Term{nil}},
		{api.Un{Op: api.OpAdd, A: p}, []api.Term{p}},
		{api.Bin{}, []api.Term{nil, nil}},
		{api.Bin{Op: api.OpIf, A: bad, B: p}, []api.Term{bad, p}},
		{api.If{}, []api.Term{nil, nil, nil}},
		{api.If{C: p, A: one, B: bad}, []api.Term{p, one, bad}},
		{api.If{A: inside{}, B: around{}}, []api.Term{nil, inside{}, around{}}},
	} {
		if got := box.Parts(c.t); !slices.Equal(got, c.want) {
			t.Errorf("Parts(%#v) = %#v", c.t, got)
		}
	}
	for what, x := range strangers() {
		if got := box.Parts(x); len(got) != 0 {
			t.Errorf("Parts (%s): %v", what, got)
		}
	}
	if got := box.Parts(doubled(60, one)); len(got) != 2 {
		t.Errorf("a tree of 2^60 nodes has %d parts", len(got))
	}
	if got := box.Parts(api.Bin{A: row{4, 5}}); len(got) != 2 || got[0].(row)[1] != 5 || got[1] != nil {
		t.Errorf("Parts of a Bin with a row: %v", got)
	}
}

// P3.4

func TestLit(t *testing.T) {
	for _, n := range []int64{0, 1, -1, 5, math.MinInt64, math.MaxInt64} {
		if got, ok := box.Lit(api.Lit{N: n}); got != n || !ok {
			t.Errorf("Lit of a literal %d: %d, %t", n, got, ok)
		}
	}
	for what, x := range others(api.Var{Name: "a"}) {
		if got, ok := box.Lit(x); got != 0 || ok {
			t.Errorf("Lit (%s): %d, %t", what, got, ok)
		}
	}
}

// others: values of all kinds but two, Lit and Var, of which the caller hands in the one that is to be among them.
func others(leaf api.Term) map[string]api.Term {
	l := strangers()
	l["the other leaf"] = leaf
	l["Un"] = api.Un{Op: api.OpNeg, A: api.Lit{N: 5}}
	l["Un of OpLit"] = api.Un{Op: api.OpLit, A: api.Lit{N: 5}}
	l["Un of OpVar"] = api.Un{Op: api.OpVar, A: api.Var{Name: "a"}}
	l["Bin"] = api.Bin{Op: api.OpAdd, A: api.Lit{N: 5}, B: api.Var{Name: "a"}}
	l["If"] = api.If{C: api.Lit{N: 5}, A: api.Var{Name: "a"}, B: api.Lit{N: 5}}
	l["empty Un"] = api.Un{}
	l["empty Bin"] = api.Bin{}
	l["empty If"] = api.If{}
	return l
}

// P3.5

func TestMusts(t *testing.T) {
	for _, n := range []int64{0, 5, math.MinInt64, math.MaxInt64} {
		if got := box.MustLit(api.Lit{N: n}); got != n {
			t.Errorf("MustLit of a literal %d: %d", n, got)
		}
	}
	for _, s := range []string{"a", "größe3", "", "3", "\xff"} {
		if got := box.MustVar(api.Var{Name: s}); got != s {
			t.Errorf("MustVar of a variable %q: %q", s, got)
		}
	}
}

func TestMustsPanic(t *testing.T) {
	for what, x := range others(api.Var{Name: "a"}) {
		if v := caught(func() { box.MustLit(x) }); !asserted(v) {
			t.Errorf("MustLit (%s) panics with %v", what, v)
		}
	}
	for what, x := range others(api.Lit{N: 5}) {
		if v := caught(func() { box.MustVar(x) }); !asserted(v) {
			t.Errorf("MustVar (%s) panics with %v", what, v)
		}
	}
}

func caught(f func()) (v any) {
	defer func() { v = recover() }()
	f()
	return nil
}

// asserted tells whether v is what an assertion panics with, which is a runtime error.
func asserted(v any) bool {
	_, ok := v.(*runtime.TypeAssertionError)
	_, is := v.(runtime.Error)
	return ok && is
}

// P3.6

func TestAll(t *testing.T) {
	for _, x := range sound() {
		it := box.All(x.t)
		for time := range 3 {
			if got := slices.Collect(it); !slices.Equal(got, x.all) {
				t.Fatalf("All(%v), time %d: %v", x.t, time+1, got)
			}
		}
	}
}

// TestAllStandsForParts: each term that All gives stands for the expression of its node.
func TestAllStandsForParts(t *testing.T) {
	x := cond(vari("b"), bin(api.OpAdd, vari("a"), lit(1)), un(api.OpNeg, vari("b")))
	want := []both{vari("b"), vari("a"), lit(1), bin(api.OpAdd, vari("a"), lit(1)), vari("b"), un(api.OpNeg, vari("b")), x}
	i := 0
	for y := range box.All(x.t) {
		if got, e := box.Open(y); text(got) != text(want[i].e) || e != api.OK {
			t.Errorf("All, number %d: %s, %d", i, text(got), e)
		}
		i++
	}
	if i != len(want) {
		t.Errorf("All gives %d terms, want %d", i, len(want))
	}
}

func TestAllNotSound(t *testing.T) {
	for what, x := range faults() {
		it := box.All(x)
		if it == nil {
			t.Errorf("All of a term that is not sound (%s) is nil", what)
			continue
		}
		for range 2 {
			for y := range it {
				t.Errorf("All of a term that is not sound (%s) gives %T", what, y)
				break
			}
		}
	}
}

// TestAllLeft: whenever the loop is left, nothing is given any more, and the next time all is given again.
func TestAllLeft(t *testing.T) {
	x := bin(api.OpMul, cond(vari("a"), lit(1), un(api.OpNot, vari("b"))), long(api.MaxTerm-6))
	it := box.All(x.t)
	for stop := 1; stop <= len(x.all); stop++ {
		var got []api.Term
		it(func(y api.Term) bool {
			got = append(got, y)
			return len(got) < stop
		})
		if !slices.Equal(got, x.all[:stop]) {
			t.Errorf("All, left after %d: %v", stop, got)
		}
	}
	if v := caught(func() {
		for range it {
			panic("left")
		}
	}); v != "left" {
		t.Errorf("All, left by a panic: %v", v)
	}
	if got := slices.Collect(it); !slices.Equal(got, x.all) {
		t.Errorf("All, behind that: %v", got)
	}
}

// TestAllWithin: one iterator may be ranged over while it is ranged over, and others beside it.
func TestAllWithin(t *testing.T) {
	x, y := bin(api.OpSub, vari("a"), un(api.OpNeg, lit(2))), cond(lit(1), vari("b"), lit(3))
	its := []iter.Seq[api.Term]{box.All(x.t), box.All(y.t)}
	i := 0
	for z := range its[0] {
		if z != x.all[i] || !slices.Equal(slices.Collect(its[0]), x.all) || !slices.Equal(slices.Collect(its[1]), y.all) {
			t.Errorf("All, number %d: %v", i, z)
		}
		i++
	}
	if i != len(x.all) {
		t.Errorf("All gives %d terms, want %d", i, len(x.all))
	}
}

// The rules that hold for all calls.

// roomy is a copy of a list whose lists all have spare room, with something in it.
func roomy(l []api.Node) []api.Node {
	out := make([]api.Node, 0, len(l)+2)
	for _, n := range l {
		n.Kids = append(slices.Clone(n.Kids), 71, 72)[:len(n.Kids)]
		out = append(out, n)
	}
	return append(out, api.Node{Op: 90, Name: "spare"}, api.Node{Op: 91, Kids: []int{5, 6}})[:len(l)]
}

// whole is all that a list holds, spare room too.
func whole(l []api.Node) string {
	s := ""
	for _, n := range l[:cap(l)] {
		s += fmt.Sprint(n.Op, n.N, n.Name, len(n.Kids), n.Kids[:cap(n.Kids)], ";")
	}
	return s
}

// TestBoxMemory: a list that is handed in stays as it was, and the term does not hang on what becomes of it.
func TestBoxMemory(t *testing.T) {
	for _, x := range sound() {
		l := roomy(x.e)
		before := whole(l)
		got, _ := box.Box(l)
		if whole(l) != before {
			t.Fatalf("Box(%s) has changed what was handed in", text(x.e))
		}
		spoil(l)
		if got != x.t {
			t.Fatalf("Box(%s) hangs on what was handed in", text(x.e))
		}
	}
}

// spoil writes to all that a list holds, spare room too.
func spoil(l []api.Node) {
	l = l[:cap(l)]
	for i := range l {
		k := l[i].Kids[:cap(l[i].Kids)]
		for j := range k {
			k[j] = -7
		}
		l[i] = api.Node{Op: -7, Name: "spoilt"}
	}
}

// TestOpenMemory: no two lists of an answer share memory, nor do two answers, nor an answer and the term.
func TestOpenMemory(t *testing.T) {
	for _, x := range sound() {
		first, _ := box.Open(x.t)
		second, _ := box.Open(x.t)
		for i := range first {
			// Each node's kids are spoilt in turn, spare room too: those of all others stay.
			k := first[i].Kids
			if cap(k) == 0 {
				continue
			}
			kept := slices.Clone(k)
			for j := range k[:cap(k)] {
				k[:cap(k)][j] = -7
			}
			first[i].Kids = kept
			if text(first) != text(x.e) {
				t.Fatalf("Open(%v): node %d shares its kids", x.t, i)
			}
			first[i].Kids = k
			copy(k, kept)
		}
		spoil(first)
		third, _ := box.Open(x.t)
		if text(second) != text(x.e) || text(third) != text(x.e) {
			t.Fatalf("Open(%v): two answers share memory", x.t)
		}
	}
}

// TestPartsMemory: what is written to an answer of Parts is seen nowhere else.
func TestPartsMemory(t *testing.T) {
	for _, x := range sound() {
		it := box.All(x.t)
		first, second := box.Parts(x.t), box.Parts(x.t)
		want := slices.Clone(second)
		for i := range first[:cap(first)] {
			first[:cap(first)][i] = api.Lit{N: 77}
		}
		if !slices.Equal(second, want) || !slices.Equal(box.Parts(x.t), want) {
			t.Fatalf("two answers of Parts(%v) share memory", x.t)
		}
		if e, _ := box.Open(x.t); text(e) != text(x.e) || !slices.Equal(slices.Collect(it), x.all) {
			t.Fatalf("%v has been changed through its parts", x.t)
		}
	}
}

// The chapter's examples.

func TestExamples(t *testing.T) {
	a1 := []api.Node{{Op: api.OpVar, Name: "a"}, {Op: api.OpLit, N: 1}, {Op: api.OpAdd, Kids: []int{0, 1}}}
	var sum api.Term = api.Bin{Op: api.OpAdd, A: api.Var{Name: "a"}, B: api.Lit{N: 1}}
	if got, e := box.Box(a1); got != sum || e != api.OK {
		t.Errorf("Box of a+1: %v, %d", got, e)
	}
	if got, e := box.Open(sum); text(got) != text(a1) || e != api.OK {
		t.Errorf("Open of a+1: %s, %d", text(got), e)
	}
	for i, x := range []api.Term{nil, api.Un{Op: api.OpAdd, A: api.Lit{N: 1}}, api.Bin{Op: api.OpAdd, A: api.Lit{N: 1}}, api.Var{Name: "3"}, &api.Lit{N: 1}} {
		if got, e := box.Open(x); len(got) != 0 || e != api.ErrForm {
			t.Errorf("Open of term %d: %s, %d", i, text(got), e)
		}
	}
	if got, e := box.Open(doubled(6, api.Var{Name: "a"})); len(got) != 0 || e != api.ErrForm {
		t.Errorf("Open of 127 nodes: %d, %d", len(got), e)
	}
	if got, e := box.Open(doubled(5, api.Var{Name: "a"})); len(got) != 63 || e != api.OK {
		t.Errorf("Open of 63 nodes: %d, %d", len(got), e)
	}
	if box.Op(api.Un{Op: 99}) != 99 || box.Op(nil) != 0 {
		t.Errorf("Op: %d, %d", box.Op(api.Un{Op: 99}), box.Op(nil))
	}
	if got := box.Parts(api.If{A: api.Lit{N: 1}}); !slices.Equal(got, []api.Term{nil, api.Lit{N: 1}, nil}) {
		t.Errorf("Parts: %v", got)
	}
	if n, ok := box.Lit(api.Var{Name: "a"}); n != 0 || ok {
		t.Errorf("Lit of a: %d, %t", n, ok)
	}
	if v := caught(func() { box.MustLit(api.Var{Name: "a"}) }); !asserted(v) {
		t.Errorf("MustLit of a panics with %v", v)
	}
	if got := slices.Collect(box.All(sum)); !slices.Equal(got, []api.Term{api.Var{Name: "a"}, api.Lit{N: 1}, sum}) {
		t.Errorf("All of a+1: %v", got)
	}
}
