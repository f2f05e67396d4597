package table_test

import (
	"fmt"
	"math"
	"math/rand"
	"slices"
	"strings"
	"testing"
	"unsafe"

	"sorrel/api"
	"sorrel/expr"
	"sorrel/parse"
	"sorrel/table"
)

func lit(n int64) api.Node              { return api.Node{Op: api.OpLit, N: n} }
func vari(s string) api.Node            { return api.Node{Op: api.OpVar, Name: s} }
func do(op int, kids ...int) api.Node   { return api.Node{Op: op, Kids: kids} }
func list(nodes ...api.Node) []api.Node { return nodes }

// read is the expression of a text of layer 4.
func read(t *testing.T, s string) []api.Node {
	t.Helper()
	e, at, bad := parse.Parse(s)
	if bad != api.OK {
		t.Fatalf("Parse(%q): %d at %d", s, bad, at)
	}
	return e
}

// random is an expression of just that size, of few leaves, so that parts come again.
func random(r *rand.Rand, size int) []api.Node {
	if size == 1 {
		leaves := list(lit(0), lit(1), lit(math.MinInt64), vari("a"), vari("ab"), vari("é"))
		return list(leaves[r.Intn(len(leaves))])
	}
	op := api.OpNeg + r.Intn(15)
	for arities[op] >= size {
		op = api.OpNeg + r.Intn(15)
	}
	var parts [][]api.Node
	left := size - 1
	for i := arities[op]; i > 1; i-- {
		k := 1 + r.Intn(left-i+1)
		parts = append(parts, random(r, k))
		left -= k
	}
	parts = append(parts, random(r, left))
	e, bad := expr.Make(op, 0, "", parts...)
	if bad != api.OK {
		panic("parts that do not fit")
	}
	return e
}

// long is negations of a variable, of just that size; beyond MaxTerm it is a list that is not sound.
func long(size int) []api.Node {
	e := list(vari("v"))
	for len(e) < size {
		e = append(e, do(api.OpNeg, len(e)-1))
	}
	return e
}

// pair is a table and the second reckoning of it, to which the same is told.
type pair struct {
	x *table.Table
	p *plain
}

func paired() pair { return pair{table.New(), &plain{}} }

// leaves is a pair with so many literals.
func leaves(t *testing.T, many int) pair {
	t.Helper()
	x := paired()
	for i := range many {
		x.put(t, lit(int64(i)))
	}
	return x
}

// put puts a node into both, which are to answer alike; Find is asked ahead of it and behind it.
func (x pair) put(t *testing.T, n api.Node) (int, api.Errno) {
	t.Helper()
	x.find(t, n)
	want, wantBad := x.p.put(n)
	id, bad := x.x.Put(n)
	if id != want || bad != wantBad {
		t.Fatalf("Put(%v) = %d, %d, want %d, %d", n, id, bad, want, wantBad)
	}
	if many := x.x.Len(); many != len(x.p.nodes) {
		t.Fatalf("Len() behind Put(%v) = %d, want %d", n, many, len(x.p.nodes))
	}
	x.find(t, n)
	return id, bad
}

func (x pair) find(t *testing.T, n api.Node) {
	t.Helper()
	want, wantBad := x.p.find(n)
	if id, bad := x.x.Find(n); id != want || bad != wantBad {
		t.Fatalf("Find(%v) = %d, %d, want %d, %d", n, id, bad, want, wantBad)
	}
	if many := x.x.Len(); many != len(x.p.nodes) {
		t.Fatalf("Len() behind Find(%v) = %d, want %d", n, many, len(x.p.nodes))
	}
}

func (x pair) add(t *testing.T, e []api.Node) int {
	t.Helper()
	want := x.p.add(e)
	if id, bad := x.x.Add(e); id != want || bad != api.OK {
		t.Fatalf("Add(%v) = %d, %d, want %d", e, id, bad, want)
	}
	if many := x.x.Len(); many != len(x.p.nodes) {
		t.Fatalf("Len() behind Add(%v) = %d, want %d", e, many, len(x.p.nodes))
	}
	return want
}

// agree holds every question on all entries against the second reckoning.
func (x pair) agree(t *testing.T) {
	t.Helper()
	if many := x.x.Len(); many != len(x.p.nodes) {
		t.Fatalf("Len() = %d, want %d", many, len(x.p.nodes))
	}
	sizes := x.p.sizes()
	for id, want := range x.p.nodes {
		if n, bad := x.x.Node(id); !same(n, want) || bad != api.OK {
			t.Fatalf("Node(%d) = %v, %d, want %v", id, n, bad, want)
		}
		if again, bad := x.x.Find(want); again != id || bad != api.OK {
			t.Fatalf("Find(%v) = %d, %d, want %d", want, again, bad, id)
		}
		size := told(sizes[id])
		if n, bad := x.x.Size(id); n != size || bad != api.OK {
			t.Fatalf("Size(%d) = %d, %d, want %d", id, n, bad, size)
		}
		e, bad := x.x.Expr(id)
		if size > api.MaxTerm {
			if len(e) != 0 || bad != api.ErrLarge {
				t.Fatalf("Expr(%d) of %d nodes = %v, %d", id, size, e, bad)
			}
		} else if want := x.p.expr(id); !sameAll(e, want) || bad != api.OK {
			t.Fatalf("Expr(%d) = %v, %d, want %v", id, e, bad, want)
		}
	}
	given(t, x.x, x.p.nodes)
	noEntries(t, x.x, len(x.p.nodes), -1)
}

// given holds what All gives against the entries that there are.
func given(t *testing.T, x *table.Table, want []api.Node) {
	t.Helper()
	many := 0
	for id, n := range x.All() {
		if id != many || id >= len(want) || !same(n, want[id]) {
			t.Fatalf("All() gives %d, %v in the place %d", id, n, many)
		}
		many++
	}
	if many != len(want) {
		t.Fatalf("All() gives %d entries, want %d", many, len(want))
	}
}

// noEntries holds that all calls that take a number answer ErrArg to these.
func noEntries(t *testing.T, x *table.Table, ids ...int) {
	t.Helper()
	for _, id := range ids {
		if n, bad := x.Node(id); !same(n, api.Node{}) || bad != api.ErrArg {
			t.Errorf("Node(%d) = %v, %d", id, n, bad)
		}
		if e, bad := x.Expr(id); len(e) != 0 || bad != api.ErrArg {
			t.Errorf("Expr(%d) = %v, %d", id, e, bad)
		}
		if n, bad := x.Size(id); n != 0 || bad != api.ErrArg {
			t.Errorf("Size(%d) = %d, %d", id, n, bad)
		}
	}
}

// refused holds that Put and Find answer an error to a node, nothing beside it, and change nothing.
func refused(t *testing.T, x *table.Table, n api.Node, want api.Errno) {
	t.Helper()
	many := x.Len()
	if id, bad := x.Put(n); id != 0 || bad != want {
		t.Errorf("Put(%v) = %d, %d, want %d", n, id, bad, want)
	}
	if id, bad := x.Find(n); id != 0 || bad != want {
		t.Errorf("Find(%v) = %d, %d, want %d", n, id, bad, want)
	}
	if x.Len() != many {
		t.Errorf("%d entries behind %v, which was refused, and %d ahead of it", x.Len(), n, many)
	}
}

// picture tells all that can be asked of a table.
func picture(x *table.Table) string {
	var s strings.Builder
	fmt.Fprint(&s, x.Len())
	for id := range x.Len() {
		n, bad := x.Node(id)
		size, bad2 := x.Size(id)
		e, bad3 := x.Expr(id)
		again, bad4 := x.Find(n)
		fmt.Fprintf(&s, "; %v %d %d %d %v %d %d %d", n, bad, size, bad2, e, bad3, again, bad4)
	}
	for id, n := range x.All() {
		fmt.Fprint(&s, "; ", id, n)
	}
	return s.String()
}

// strange are numbers that are no entry's in any table of up to 1000 entries.
func strange(many int) []int {
	return []int{-1, many, -2, many + 1, -1000, math.MinInt, math.MaxInt, math.MinInt + 1, math.MaxInt - 1, math.MinInt32, math.MaxInt32, 1 << 32, -1 << 32, 1<<32 + 1, api.MaxIds, api.MaxIds - 1, -api.MaxIds}
}

// P10.1

func TestNewHasNoEntries(t *testing.T) {
	x := table.New()
	if x == nil {
		t.Fatal("New() is nil")
	}
	pair{x, &plain{}}.agree(t)
	noEntries(t, x, append(strange(0), 0)...)
	refused(t, x, do(api.OpNeg, 0), api.ErrArg)
	if id, bad := x.Find(lit(0)); id != 0 || bad != api.ErrNone {
		t.Errorf("Find(0) = %d, %d", id, bad)
	}
}

// TestEveryOperator: each with every number of Kids from none to five.
func TestEveryOperator(t *testing.T) {
	ops := []int{math.MinInt, -1 << 32, -17, -1, 0, api.OpHole, 19, 20, 1 << 32, 1<<32 + 1, 1<<32 + 5, math.MaxInt}
	for op := api.OpLit; op <= api.OpIf; op++ {
		ops = append(ops, op)
	}
	x := leaves(t, 6)
	for _, op := range ops {
		for many := range 6 {
			for _, kids := range [][]int{{0, 1, 2, 3, 4}, {5, 5, 5, 5, 5}, {4, 3, 2, 1, 0}} {
				n := do(op, kids[:many]...)
				if op == api.OpVar {
					n.Name = "a"
				}
				id, bad := x.put(t, n)
				if fit := op >= api.OpLit && op <= api.OpIf && many == arities[op]; fit != (bad == api.OK) || !fit && bad != api.ErrForm {
					t.Errorf("Put(%v) = %d, %d", n, id, bad)
				}
			}
		}
		x.agree(t)
	}
	refused(t, x.x, api.Node{Op: api.OpHole, Name: "a"}, api.ErrForm)
	refused(t, x.x, api.Node{}, api.ErrForm)
	refused(t, x.x, do(api.OpAdd, make([]int, 1<<20)...), api.ErrForm)
	refused(t, x.x, do(api.OpLit, make([]int, 1<<20)...), api.ErrForm)
}

// TestNAndName: N at literals alone, Name at variables alone.
func TestNAndName(t *testing.T) {
	numbers := []int64{0, 1, -1, 255, 1 << 32, math.MinInt64, math.MaxInt64}
	names := []string{"", "a", "é", "3", " ", "\xff", "\x00"}
	x := leaves(t, 4)
	for op := api.OpLit; op <= api.OpIf; op++ {
		for _, number := range numbers {
			for _, name := range names {
				n := api.Node{Op: op, N: number, Name: name, Kids: []int{3, 1, 2}[:arities[op]]}
				fit := number == 0 && name == ""
				switch op {
				case api.OpLit:
					fit = name == ""
				case api.OpVar:
					fit = number == 0 && (name == "a" || name == "é")
				}
				id, bad := x.put(t, n)
				if fit != (bad == api.OK) || !fit && bad != api.ErrForm {
					t.Errorf("Put(%v) = %d, %d", n, id, bad)
				}
			}
		}
	}
	x.agree(t)
}

func TestNames(t *testing.T) {
	x := paired()
	good := []string{"a", "A", "_", "ab", "a1", "a_", "é", "x₂", "größe3", "名", "\U00010400", strings.Repeat("x", 16), strings.Repeat("é", 16), strings.Repeat("\U00010400", 16)}
	for i, name := range good {
		if id, bad := x.put(t, vari(name)); id != i || bad != api.OK {
			t.Errorf("Put of %q = %d, %d", name, id, bad)
		}
	}
	for i, name := range good {
		if id, bad := x.put(t, vari(strings.Clone(name))); id != i || bad != api.OK {
			t.Errorf("Put of %q again = %d, %d", name, id, bad)
		}
	}
	for _, name := range []string{"", "3", "3x", "₂", "₂x", " ", "a b", " a", "a ", "a\n", "\xff", "a\xff", "\xc3", "a\x00", "\ufffd", "a+b", "@a", "×", strings.Repeat("x", 17), strings.Repeat("é", 17), strings.Repeat("x", 1<<20)} {
		refused(t, x.x, vari(name), api.ErrForm)
	}
	x.agree(t)
}

// TestKidsThatAreNone: in each place of each operator that has parts.
func TestKidsThatAreNone(t *testing.T) {
	for many := range 8 {
		x := leaves(t, many)
		was := picture(x.x)
		for op := api.OpNeg; op <= api.OpIf; op++ {
			for place := range arities[op] {
				for _, kid := range strange(many) {
					n := do(op, make([]int, arities[op])...)
					n.Kids[place] = kid
					refused(t, x.x, n, api.ErrArg)
				}
			}
		}
		if is := picture(x.x); is != was {
			t.Fatalf("%s was %s", is, was)
		}
		if many > 0 {
			x.put(t, do(api.OpIf, many-1, 0, many-1))
		}
		x.agree(t)
	}
}

// TestKidOfTheEntryBefore: the greatest number that may be a kid rises with each entry.
func TestKidOfTheEntryBefore(t *testing.T) {
	x := leaves(t, 1)
	for many := 1; many < 100; many++ {
		refused(t, x.x, do(api.OpNeg, many), api.ErrArg)
		if id, bad := x.put(t, do(api.OpNeg, many-1)); id != many || bad != api.OK {
			t.Fatalf("Put of Neg of %d = %d, %d", many-1, id, bad)
		}
	}
	x.agree(t)
}

// TestWhichError: ErrForm counts ahead of ErrArg, whatever the fault of form is.
func TestWhichError(t *testing.T) {
	x := leaves(t, 2)
	for _, n := range []api.Node{
		do(api.OpNeg, 2, 0), do(api.OpNeg, 0, -1), do(api.OpAdd, 5), do(api.OpAdd, -1, -1, -1), do(api.OpIf, 0, 9),
		do(api.OpHole, 7), do(0, -1), do(api.OpLit, 7), do(18, 0, 2),
		{Op: api.OpVar, Name: "a", Kids: []int{9}},
		{Op: api.OpNeg, N: 1, Kids: []int{9}},
		{Op: api.OpAdd, Name: "a", Kids: []int{0, 9}},
		{Op: api.OpIf, N: -1, Name: "b", Kids: []int{-1, 0, 9}},
	} {
		refused(t, x.x, n, api.ErrForm)
	}
	refused(t, x.x, do(api.OpNeg, 2), api.ErrArg)
	refused(t, x.x, do(api.OpAdd, 0, 2), api.ErrArg)
	if id, bad := x.x.Find(do(api.OpAdd, 0, 1)); id != 0 || bad != api.ErrNone {
		t.Errorf("Find of what is no entry = %d, %d", id, bad)
	}
	x.agree(t)
}

// TestTwins: nodes of which each differs from another in one field alone are entries of their own, and each is found again.
func TestTwins(t *testing.T) {
	x := leaves(t, 13)
	twins := list(
		lit(-1), lit(1<<32), lit(1<<32+1), lit(math.MinInt64), lit(math.MaxInt64),
		vari("a"), vari("b"), vari("A"), vari("aa"), vari("ab"), vari("a1"), vari("a₁"), vari("á"), vari("à"), vari("а"),
		do(api.OpNeg, 0), do(api.OpNot, 0), do(api.OpNeg, 1), do(api.OpNeg, 11), do(api.OpNeg, 12),
		do(api.OpIf, 0, 0, 0), do(api.OpIf, 1, 0, 0), do(api.OpIf, 0, 1, 0), do(api.OpIf, 0, 0, 1),
		do(api.OpIf, 1, 11, 1), do(api.OpIf, 11, 1, 1), do(api.OpIf, 1, 1, 11), do(api.OpIf, 12, 3, 4), do(api.OpIf, 1, 2, 3),
	)
	for op := api.OpAdd; op <= api.OpLt; op++ {
		twins = append(twins, do(op, 0, 0), do(op, 0, 1), do(op, 1, 0), do(op, 1, 12), do(op, 11, 2), do(op, 12, 1))
	}
	for i, n := range twins {
		if id, bad := x.put(t, n); id != 13+i || bad != api.OK {
			t.Errorf("Put(%v) = %d, %d, want %d", n, id, bad, 13+i)
		}
	}
	x.agree(t)
	for i, n := range twins {
		if id, bad := x.put(t, copied(n)); id != 13+i || bad != api.OK {
			t.Errorf("Put(%v) again = %d, %d, want %d", n, id, bad, 13+i)
		}
	}
	x.agree(t)
}

// TestRowsOfKids: all pairs and many rows of three are told apart, whatever digits their numbers are written with.
func TestRowsOfKids(t *testing.T) {
	x := table.New()
	for i := range 130 {
		x.Put(lit(int64(i)))
	}
	next := 130
	put := func(n api.Node) {
		if id, bad := x.Put(n); id != next || bad != api.OK {
			t.Fatalf("Put(%v) = %d, %d, want %d", n, id, bad, next)
		}
		next++
	}
	for a := range 130 {
		for b := range 130 {
			put(do(api.OpSub, a, b))
			for _, c := range []int{0, 1, 11, 111} {
				put(do(api.OpIf, a, b, c))
			}
		}
	}
	for id, n := range x.All() {
		if again, bad := x.Find(n); again != id || bad != api.OK {
			t.Fatalf("Find(%v) = %d, %d, want %d", n, again, bad, id)
		}
	}
}

// TestPutByChance: any nodes, sound and not, against the second reckoning.
func TestPutByChance(t *testing.T) {
	r := rand.New(rand.NewSource(101))
	for range 60 {
		x := paired()
		for range 120 {
			n := api.Node{Op: r.Intn(21) - 1}
			if r.Intn(3) == 0 {
				n.Op = 1 + r.Intn(2)
			}
			many := 0
			if n.Op > 0 && n.Op < len(arities) {
				many = arities[n.Op]
			}
			if r.Intn(12) == 0 {
				many = r.Intn(5)
			}
			for range many {
				n.Kids = append(n.Kids, r.Intn(max(len(x.p.nodes), 1)))
				if r.Intn(30) == 0 {
					n.Kids[r.Intn(len(n.Kids))] = len(x.p.nodes) - r.Intn(3)
				}
			}
			if n.Op == api.OpLit || r.Intn(20) == 0 {
				n.N = int64(r.Intn(5) - 2)
			}
			if n.Op == api.OpVar || r.Intn(20) == 0 {
				n.Name = []string{"a", "b", "ab", "", "é", "9"}[r.Intn(6)]
			}
			x.put(t, n)
		}
		x.agree(t)
	}
}

// filled is a table of so many literals, from 0 on.
func filled(t *testing.T, many int) *table.Table {
	t.Helper()
	x := table.New()
	for i := range many {
		if id, bad := x.Put(lit(int64(i))); id != i || bad != api.OK {
			t.Fatalf("Put(%d) = %d, %d", i, id, bad)
		}
	}
	return x
}

// TestPutUpToTheLimit: behind MaxIds entries none comes to them, and what is an entry is answered still.
func TestPutUpToTheLimit(t *testing.T) {
	const last = api.MaxIds - 1
	x := filled(t, last)
	if id, bad := x.Put(do(api.OpIf, 0, last-1, 5)); id != last || bad != api.OK {
		t.Fatalf("Put of the last one = %d, %d", id, bad)
	}
	for range 3 {
		for _, n := range list(lit(-1), lit(last), vari("a"), do(api.OpNeg, 0), do(api.OpAdd, last, last), do(api.OpIf, 0, last-1, 4)) {
			if id, bad := x.Put(n); id != 0 || bad != api.ErrLarge {
				t.Errorf("Put(%v) to MaxIds entries = %d, %d", n, id, bad)
			}
			if id, bad := x.Find(n); id != 0 || bad != api.ErrNone {
				t.Errorf("Find(%v) = %d, %d", n, id, bad)
			}
			if many := x.Len(); many != api.MaxIds {
				t.Fatalf("Len() = %d", many)
			}
		}
		refused(t, x, do(api.OpAdd, 0), api.ErrForm)
		refused(t, x, vari(""), api.ErrForm)
		refused(t, x, do(api.OpNeg, api.MaxIds), api.ErrArg)
		refused(t, x, do(api.OpNeg, -1), api.ErrArg)
		for _, id := range []int{0, 1, 1 << 16, last - 1} {
			if again, bad := x.Put(lit(int64(id))); again != id || bad != api.OK {
				t.Errorf("Put(%d) of an entry = %d, %d", id, again, bad)
			}
		}
		if id, bad := x.Put(do(api.OpIf, 0, last-1, 5)); id != last || bad != api.OK {
			t.Errorf("Put of the last one again = %d, %d", id, bad)
		}
		if id, bad := x.Add(list(lit(0), lit(last-1), lit(5), do(api.OpIf, 0, 1, 2))); id != last || bad != api.OK {
			t.Errorf("Add of what is there = %d, %d", id, bad)
		}
	}
	noEntries(t, x, api.MaxIds, api.MaxIds+1, -1)
	many := 0
	for id, n := range x.All() {
		if id != many || id < last && !same(n, lit(int64(id))) {
			t.Fatalf("All() gives %d, %v in the place %d", id, n, many)
		}
		many++
	}
	if many != api.MaxIds {
		t.Errorf("All() gives %d entries", many)
	}
	if n, bad := x.Node(last); !same(n, do(api.OpIf, 0, last-1, 5)) || bad != api.OK {
		t.Errorf("Node(%d) = %v, %d", last, n, bad)
	}
}

// P10.2

func TestNode(t *testing.T) {
	r := rand.New(rand.NewSource(102))
	x := paired()
	for range 40 {
		x.add(t, random(r, 1+r.Intn(api.MaxTerm)))
		id := r.Intn(x.x.Len())
		n, bad := x.x.Node(id)
		if !same(n, x.p.nodes[id]) || bad != api.OK {
			t.Fatalf("Node(%d) = %v, %d, want %v", id, n, bad, x.p.nodes[id])
		}
		for _, kid := range n.Kids {
			if kid >= id {
				t.Fatalf("Node(%d) = %v, whose kid is no earlier entry", id, n)
			}
		}
		noEntries(t, x.x, x.x.Len(), x.x.Len()+1, -1, -x.x.Len(), math.MinInt, math.MaxInt)
	}
	x.agree(t)
}

func TestNumbersThatAreNone(t *testing.T) {
	for many := range 10 {
		x := leaves(t, many)
		was := picture(x.x)
		noEntries(t, x.x, strange(many)...)
		if is := picture(x.x); is != was {
			t.Fatalf("%s was %s", is, was)
		}
		if id, bad := x.put(t, vari("a")); id != many || bad != api.OK {
			t.Errorf("Put behind what was refused = %d, %d", id, bad)
		}
	}
}

// P10.3

// TestAddOrder: the entries come in the order of the expression's nodes, each part where it stands first.
func TestAddOrder(t *testing.T) {
	for _, c := range []struct {
		s    string
		id   int
		want []api.Node
	}{
		{"a", 0, list(vari("a"))},
		{"7", 0, list(lit(7))},
		{"a-b", 2, list(vari("a"), vari("b"), do(api.OpSub, 0, 1))},
		{"b-a", 2, list(vari("b"), vari("a"), do(api.OpSub, 0, 1))},
		{"a-a", 1, list(vari("a"), do(api.OpSub, 0, 0))},
		{"a*a + a*a", 2, list(vari("a"), do(api.OpMul, 0, 0), do(api.OpAdd, 1, 1))},
		{"(a-1)*(1-a)", 4, list(vari("a"), lit(1), do(api.OpSub, 0, 1), do(api.OpSub, 1, 0), do(api.OpMul, 2, 3))},
		{"a ? ~a : a", 2, list(vari("a"), do(api.OpNot, 0), do(api.OpIf, 0, 1, 0))},
		{"~a ? a : ~a", 2, list(vari("a"), do(api.OpNot, 0), do(api.OpIf, 1, 0, 1))},
		{"- -a", 2, list(vari("a"), do(api.OpNeg, 0), do(api.OpNeg, 1))},
		{"x + 1 - (x + 1) * y", 5, list(vari("x"), lit(1), do(api.OpAdd, 0, 1), vari("y"), do(api.OpMul, 2, 3), do(api.OpSub, 2, 4))},
	} {
		x := table.New()
		if id, bad := x.Add(read(t, c.s)); id != c.id || bad != api.OK {
			t.Errorf("Add(%s) = %d, %d, want %d", c.s, id, bad, c.id)
		}
		given(t, x, c.want)
	}
}

// TestAddByChance: expressions of every size, again, and their parts, with what they share.
func TestAddByChance(t *testing.T) {
	r := rand.New(rand.NewSource(103))
	for range 8 {
		x := paired()
		for size := 1; size <= api.MaxTerm; size++ {
			e := random(r, size)
			id := x.add(t, e)
			if again := x.add(t, e); again != id {
				t.Fatalf("Add again = %d, was %d", again, id)
			}
			many := x.x.Len()
			for at := range e {
				part, _ := expr.Part(e, at)
				id := x.add(t, part)
				if l, bad := x.x.Expr(id); !sameAll(l, part) || bad != api.OK {
					t.Fatalf("Expr(%d) = %v, %d, want %v", id, l, bad, part)
				}
			}
			if x.x.Len() != many {
				t.Fatalf("%d entries, and %d behind an Add of parts", many, x.x.Len())
			}
		}
		x.agree(t)
	}
}

// TestAddBesidePut: what was put in node by node is found by Add, and the other way round.
func TestAddBesidePut(t *testing.T) {
	x := paired()
	x.put(t, lit(1))
	x.put(t, vari("a"))
	x.put(t, do(api.OpAdd, 1, 0))
	if id := x.add(t, read(t, "a+1")); id != 2 || x.x.Len() != 3 {
		t.Errorf("Add(a+1) = %d, %d entries", id, x.x.Len())
	}
	if id := x.add(t, read(t, "(1+a)*(a+1)")); id != 4 || x.x.Len() != 5 {
		t.Errorf("Add((1+a)*(a+1)) = %d, %d entries", id, x.x.Len())
	}
	if id, _ := x.put(t, do(api.OpMul, 3, 2)); id != 4 {
		t.Errorf("Put of what Add put in = %d", id)
	}
	x.agree(t)
}

// faults are lists that are not sound.
func faults() map[string][]api.Node {
	a, one := vari("a"), lit(1)
	return map[string][]api.Node{
		"nil":                      nil,
		"no nodes":                 {},
		"too many nodes":           long(api.MaxTerm + 1),
		"far too many nodes":       long(1 << 16),
		"op 0":                     list(api.Node{}),
		"op far below":             list(api.Node{Op: math.MinInt}),
		"a hole":                   list(api.Node{Op: api.OpHole, Name: "a"}),
		"a hole as a part":         list(api.Node{Op: api.OpHole, Name: "a"}, do(api.OpNeg, 0)),
		"a literal with a name":    list(api.Node{Op: api.OpLit, Name: "a"}),
		"a variable with N":        list(api.Node{Op: api.OpVar, Name: "a", N: 1}),
		"a variable without name":  list(vari("")),
		"no name in a part":        list(a, vari("3"), do(api.OpAdd, 0, 1)),
		"an operator with N":       list(a, api.Node{Op: api.OpNeg, N: 1, Kids: []int{0}}),
		"an operator with a name":  list(a, api.Node{Op: api.OpNeg, Name: "a", Kids: []int{0}}),
		"too few parts":            list(a, do(api.OpAdd, 0)),
		"too many parts":           list(a, one, do(api.OpNeg, 0, 1)),
		"parts of an if":           list(a, one, do(api.OpIf, 0, 1)),
		"parts the wrong way":      list(a, one, do(api.OpAdd, 1, 0)),
		"an entry's list, shared":  list(a, do(api.OpAdd, 0, 0)),
		"itself as a part":         list(do(api.OpNeg, 0)),
		"a part behind it":         list(do(api.OpNeg, 1), a),
		"part -1":                  list(do(api.OpNeg, -1)),
		"a part far below":         list(a, do(api.OpNeg, math.MinInt)),
		"a part far above":         list(a, do(api.OpNeg, math.MaxInt)),
		"two wholes":               list(a, one),
		"a node that is no part":   list(a, one, do(api.OpNeg, 1)),
		"a node that is of two":    list(a, do(api.OpNeg, 0), do(api.OpNeg, 0), do(api.OpAdd, 1, 2)),
		"a fault in the last node": append(long(api.MaxTerm-1), do(api.OpNeg, api.MaxTerm-1)),
	}
}

// TestAddOfWhatIsNotSound: it is refused, and no node of it is put in, not even where those ahead of the fault could be.
func TestAddOfWhatIsNotSound(t *testing.T) {
	for what, e := range faults() {
		for _, s := range []string{"", "9", "v*1 + ~a"} {
			x := paired()
			if s != "" {
				x.add(t, read(t, s))
			}
			was := picture(x.x)
			for range 2 {
				if id, bad := x.x.Add(e); id != 0 || bad != api.ErrForm {
					t.Errorf("Add, %s: %d, %d", what, id, bad)
				}
			}
			if is := picture(x.x); is != was {
				t.Errorf("behind an Add, %s: %s, was %s", what, is, was)
			}
			x.agree(t)
			x.add(t, read(t, "a+1"))
			x.agree(t)
		}
	}
}

// tail is all entries behind the first many, which are few.
func tail(t *testing.T, x *table.Table, many int) string {
	t.Helper()
	s := ""
	for id := many; id < x.Len(); id++ {
		n, bad := x.Node(id)
		again, bad2 := x.Find(n)
		s += fmt.Sprint(id, n, bad, again, bad2, ";")
	}
	return s
}

// refusedAdd holds that an expression does not go in, and that the table is as it was: the entries behind the first many, those of the expression's parts that are entries, and those that are none.
func refusedAdd(t *testing.T, x *table.Table, many int, e []api.Node, want api.Errno) {
	t.Helper()
	type found struct {
		id  int
		bad api.Errno
	}
	// What Find answers of a leaf hangs on the entries alone.
	look := func() []found {
		var l []found
		for _, n := range e {
			if len(n.Kids) == 0 {
				id, bad := x.Find(n)
				l = append(l, found{id, bad})
			}
		}
		return l
	}
	ahead, were, was := x.Len(), look(), tail(t, x, many)
	if id, bad := x.Add(e); id != 0 || bad != want {
		t.Fatalf("Add(%v) to %d entries = %d, %d, want %d", e, ahead, id, bad, want)
	}
	if x.Len() != ahead {
		t.Fatalf("%d entries, %d behind an Add that was refused", ahead, x.Len())
	}
	if is := tail(t, x, many); is != was {
		t.Fatalf("behind an Add that was refused: %s, was %s", is, was)
	}
	if are := look(); !slices.Equal(are, were) {
		t.Fatalf("the leaves of %v are found as %v, were as %v", e, are, were)
	}
	noEntries(t, x, ahead, ahead+1)
	refused(t, x, do(api.OpNeg, ahead), api.ErrArg)
}

// TestAddAboutTheLimit: an expression goes in whole or not at all, and what counts is how many of its nodes are no entries.
func TestAddAboutTheLimit(t *testing.T) {
	const room = 10
	const first = api.MaxIds - room
	x := filled(t, first)
	goes := func(s string, want int) {
		t.Helper()
		e := read(t, s)
		id, bad := x.Add(e)
		if id != want || bad != api.OK {
			t.Fatalf("Add(%s) = %d, %d, want %d", s, id, bad, want)
		}
		if l, bad := x.Expr(id); !sameAll(l, e) || bad != api.OK {
			t.Fatalf("Expr(%d) = %v, %d, want %v", id, l, bad, e)
		}
	}
	refusedAdd(t, x, first, long(room+1), api.ErrLarge)
	refusedAdd(t, x, first, long(api.MaxTerm), api.ErrLarge)
	refusedAdd(t, x, first, long(api.MaxTerm+1), api.ErrForm)
	refusedAdd(t, x, first, read(t, "(5+a)*(b-9)/(c%7)^(d|e)"), api.ErrLarge)
	// Twelve nodes, of which eleven are new; the parts that are there already stay.
	refusedAdd(t, x, first, read(t, "- - - - - - - - - -(3+4)"), api.ErrLarge)
	refused(t, x, do(api.OpNeg, first), api.ErrArg)

	goes("a+1", first+1) // a and the sum are new
	refusedAdd(t, x, first, long(room-1), api.ErrLarge)
	refusedAdd(t, x, first, read(t, "(a+1)*(b-1) + (b-1)*(c-1) - d"), api.ErrLarge)
	goes("(a+1)*(a+1) - (a+1)*(a+1)", first+3)
	goes("1 ? 2 : 3", first+4) // room for five more
	refusedAdd(t, x, first, long(6), api.ErrLarge)
	refusedAdd(t, x, first, read(t, "(a+1) * - - - - -(a+1)"), api.ErrLarge)
	goes("- - - - -(a+1)", first+9)
	if x.Len() != api.MaxIds {
		t.Fatalf("Len() = %d", x.Len())
	}
	for range 2 {
		for _, s := range []string{"z", "-1", "a+2", "1+a", "~a", "z*z + z*z", "- - - - - -(a+1)", "1 ? 3 : 2"} {
			refusedAdd(t, x, first, read(t, s), api.ErrLarge)
		}
		refusedAdd(t, x, first, nil, api.ErrForm)
		refusedAdd(t, x, first, list(do(api.OpNeg, 0)), api.ErrForm)
		goes("a+1", first+1)
		goes("1 ? 2 : 3", first+4)
		goes("- - - - -(a+1)", first+9)
		goes("a", first)
		goes("0", 0)
	}
}

// noneAbove holds that no node whose kids are entries behind the first many is an entry.
func noneAbove(t *testing.T, x *table.Table, many int) {
	t.Helper()
	for a := many; a < x.Len(); a++ {
		for b := many; b < x.Len(); b++ {
			for op := api.OpNeg; op <= api.OpIf; op++ {
				n := do(op, []int{a, b, a}[:arities[op]]...)
				if id, bad := x.Find(n); id != 0 || bad != api.ErrNone {
					t.Fatalf("Find(%v) = %d, %d", n, id, bad)
				}
			}
		}
	}
}

// TestAddWhereOneIsTooMany: for each place at which the room may end, the nodes ahead of it are taken out again, and their numbers go to what comes next.
func TestAddWhereOneIsTooMany(t *testing.T) {
	const need = 9
	x := filled(t, api.MaxIds-need)
	e := read(t, "(p*q + 1) * (p - q) / ~p ^ 2")
	for room := need - 1; room >= 0; room-- {
		// One entry more, so that one node fewer of e has room.
		next := x.Len()
		if id, bad := x.Put(lit(int64(-1 - room))); id != next || bad != api.OK {
			t.Fatalf("Put with room for %d more = %d, %d, want %d", room, id, bad, next)
		}
		refusedAdd(t, x, api.MaxIds-need, e, api.ErrLarge)
		for _, n := range list(vari("p"), vari("q")) {
			if id, bad := x.Find(n); id != 0 || bad != api.ErrNone {
				t.Fatalf("Find(%v) = %d, %d", n, id, bad)
			}
		}
	}
	if x.Len() != api.MaxIds {
		t.Fatalf("Len() = %d", x.Len())
	}
	noneAbove(t, x, api.MaxIds-need)
	for i := range need {
		if n, bad := x.Node(api.MaxIds - need + i); !same(n, lit(int64(i-need))) || bad != api.OK {
			t.Errorf("Node(%d) = %v, %d", api.MaxIds-need+i, n, bad)
		}
	}
}

// P10.4

// TestEverySize: entries of every size from 1 on, in several forms, to beyond MaxTerm.
func TestEverySize(t *testing.T) {
	x := leaves(t, 3)
	chain, comb, other, tree := 0, 0, 0, 0
	for size := 1; size <= 2*api.MaxTerm+8; size++ {
		if n, bad := x.x.Size(chain); n != size || bad != api.OK {
			t.Fatalf("Size(%d) = %d, %d, want %d", chain, n, bad, size)
		}
		e, bad := x.x.Expr(chain)
		if size <= api.MaxTerm && (len(e) != size || bad != api.OK || expr.Check(e) != api.OK) {
			t.Fatalf("Expr(%d) of %d nodes = %v, %d", chain, size, e, bad)
		}
		if size > api.MaxTerm && (len(e) != 0 || bad != api.ErrLarge) {
			t.Fatalf("Expr(%d) of %d nodes = %v, %d", chain, size, e, bad)
		}
		chain, _ = x.put(t, do(api.OpNeg, chain))
		comb, _ = x.put(t, do(api.OpSub, comb, 1))
		other, _ = x.put(t, do(api.OpDiv, 2, other))
		tree, _ = x.put(t, do(api.OpIf, 1, tree, 2))
	}
	x.agree(t)
}

// TestSizesAboutMaxTerm: of each operator, of parts whose sizes come to MaxTerm and to one more.
func TestSizesAboutMaxTerm(t *testing.T) {
	x := leaves(t, 1)
	of := []int{0, 0} // of[k] is an entry of size k
	for size := 2; size <= api.MaxTerm; size++ {
		id, _ := x.put(t, do(api.OpNot, of[size-1]))
		of = append(of, id)
	}
	hold := func(n api.Node, size int) {
		t.Helper()
		id, _ := x.put(t, n)
		if got, bad := x.x.Size(id); got != size || bad != api.OK {
			t.Fatalf("Size of %v = %d, %d, want %d", n, got, bad, size)
		}
		e, bad := x.x.Expr(id)
		if size <= api.MaxTerm && (len(e) != size || bad != api.OK) || size > api.MaxTerm && (len(e) != 0 || bad != api.ErrLarge) {
			t.Fatalf("Expr of %v, of size %d: %d nodes, %d", n, size, len(e), bad)
		}
	}
	for op := api.OpAdd; op <= api.OpLt; op++ {
		for size := api.MaxTerm - 1; size <= api.MaxTerm+1; size++ {
			for left := 1; left < size-1; left += 5 {
				hold(do(op, of[left], of[size-1-left]), size)
			}
		}
	}
	for size := api.MaxTerm - 1; size <= api.MaxTerm+1; size++ {
		for a := 1; a < size-2; a += 9 {
			for b := 1; b < size-1-a; b += 7 {
				hold(do(api.OpIf, of[a], of[b], of[size-1-a-b]), size)
			}
		}
	}
	x.agree(t)
}

// TestSizesAboutMaxSize: up to one below it, it itself, and far above all numbers of the language.
func TestSizesAboutMaxSize(t *testing.T) {
	x := leaves(t, 1)
	of := []int{0, 0} // of[k] is an entry of size 2^k - 1
	for k := 2; k <= 100; k++ {
		id, bad := x.put(t, do(api.OpAdd, of[k-1], of[k-1]))
		if bad != api.OK {
			t.Fatalf("Put of doubling %d: %d", k, bad)
		}
		of = append(of, id)
		want := api.MaxSize
		if k <= 30 {
			want = 1<<k - 1
		}
		if n, bad := x.x.Size(id); n != want || bad != api.OK {
			t.Fatalf("Size of 2^%d-1 nodes = %d, %d, want %d", k, n, bad, want)
		}
	}
	x.agree(t)
	const below = api.MaxSize - 1
	for _, c := range []struct {
		n    api.Node
		want int
	}{
		{do(api.OpNeg, of[29]), 1 << 29},
		{do(api.OpSub, of[29], of[29]), below},
		{do(api.OpSub, of[29], of[28]), 1<<29 + 1<<28 - 1},
		{do(api.OpNeg, of[30]), api.MaxSize},
		{do(api.OpNot, of[31]), api.MaxSize},
		{do(api.OpAdd, of[30], 0), api.MaxSize},
		{do(api.OpAdd, 0, of[30]), api.MaxSize},
		{do(api.OpSub, of[30], of[30]), api.MaxSize},
		{do(api.OpSub, of[31], of[31]), api.MaxSize},
		{do(api.OpIf, of[28], of[28], of[29]), below - 1},
		{do(api.OpIf, of[29], 0, of[29]), api.MaxSize},
		{do(api.OpIf, 0, 0, of[30]), api.MaxSize},
		{do(api.OpIf, of[30], 0, 0), api.MaxSize},
		{do(api.OpIf, of[31], of[31], of[31]), api.MaxSize},
		{do(api.OpIf, of[100], of[100], of[100]), api.MaxSize},
	} {
		id, _ := x.put(t, c.n)
		if n, bad := x.x.Size(id); n != c.want || bad != api.OK {
			t.Errorf("Size of %v = %d, %d, want %d", c.n, n, bad, c.want)
		}
		if e, bad := x.x.Expr(id); len(e) != 0 || bad != api.ErrLarge {
			t.Errorf("Expr of %v = %v, %d", c.n, e, bad)
		}
	}
	three := 0
	for range 200 {
		three, _ = x.put(t, do(api.OpIf, three, three, three))
	}
	x.agree(t)
}

// TestThereAndBack: Expr of Add is the expression, Add of Expr is the number.
func TestThereAndBack(t *testing.T) {
	r := rand.New(rand.NewSource(104))
	x := table.New()
	for range 10 {
		for size := 1; size <= api.MaxTerm; size++ {
			e := random(r, size)
			id, bad := x.Add(e)
			if bad != api.OK {
				t.Fatalf("Add(%v): %d", e, bad)
			}
			if l, bad := x.Expr(id); !sameAll(l, e) || bad != api.OK {
				t.Fatalf("Expr(%d) = %v, %d, want %v", id, l, bad, e)
			}
			if n, bad := x.Size(id); n != size || bad != api.OK {
				t.Fatalf("Size(%d) = %d, %d, want %d", id, n, bad, size)
			}
		}
	}
	many := x.Len()
	for id := range many {
		e, _ := x.Expr(id)
		if again, bad := x.Add(e); again != id || bad != api.OK {
			t.Fatalf("Add of Expr(%d) = %d, %d", id, again, bad)
		}
	}
	if x.Len() != many {
		t.Errorf("%d entries, and %d behind an Add of each", many, x.Len())
	}
}

// P10.5

// TestAllWhileOthersCome: an iterator gives the entries of its call, whatever comes between the call and the loop, in the loop and behind it.
func TestAllWhileOthersCome(t *testing.T) {
	for many := range 70 {
		x := leaves(t, many)
		were := slices.Clone(x.p.nodes)
		all := x.x.All()
		hold := func() {
			t.Helper()
			seen := 0
			for id, n := range all {
				if id != seen || id >= many || !same(n, were[id]) {
					t.Fatalf("of %d entries All() gives %d, %v in the place %d", many, id, n, seen)
				}
				seen++
				x.put(t, do(api.OpNeg, id))
				x.put(t, vari("n"))
				x.x.Add(nil)
			}
			if seen != many {
				t.Fatalf("All() gives %d entries, want %d", seen, many)
			}
		}
		hold()
		x.add(t, read(t, "u*(v + 1) - u"))
		hold()
		hold()
		x.agree(t)
	}
}

// TestAllBesideAnAddThatIsRefused: what such an Add has put in and taken out again is in no iterator.
func TestAllBesideAnAddThatIsRefused(t *testing.T) {
	x := filled(t, api.MaxIds-2)
	all := x.All()
	x.Add(read(t, "a*b + c"))
	x.Put(vari("z"))
	more := x.All()
	x.Add(read(t, "a*b + c"))
	for what, c := range map[string]struct {
		gives func(yield func(int, api.Node) bool)
		want  int
	}{"ahead": {all, api.MaxIds - 2}, "between": {more, api.MaxIds - 1}, "behind": {x.All(), api.MaxIds - 1}} {
		seen := 0
		for id, n := range c.gives {
			want := lit(int64(id))
			if id == api.MaxIds-2 {
				want = vari("z")
			}
			if id != seen || !same(n, want) {
				t.Fatalf("All(), %s, gives %d, %v in the place %d", what, id, n, seen)
			}
			seen++
		}
		if seen != c.want {
			t.Errorf("All(), %s, gives %d entries, want %d", what, seen, c.want)
		}
	}
}

// TestAllStops: at whatever place the loop is left, nothing more is given, and the next loop begins at the front.
func TestAllStops(t *testing.T) {
	x := leaves(t, 12)
	x.add(t, read(t, "a*(b+1) - ~c"))
	all := x.x.All()
	for stop := range x.x.Len() {
		calls := 0
		all(func(id int, n api.Node) bool {
			if id != calls || !same(n, x.p.nodes[id]) {
				t.Fatalf("All() gives %d, %v in the place %d", id, n, calls)
			}
			calls++
			return id != stop
		})
		if calls != stop+1 {
			t.Errorf("left at %d, All() has given %d entries", stop, calls)
		}
		seen := 0
		for id := range all {
			if seen++; id == stop {
				break
			}
		}
		if seen != stop+1 {
			t.Errorf("left at %d, the loop has run %d times", stop, seen)
		}
	}
	given(t, x.x, x.p.nodes)
	// Two loops of one iterator, one inside the other.
	for a := range all {
		seen := 0
		for b := range all {
			if b != seen {
				t.Fatalf("inside the loop at %d: %d in the place %d", a, b, seen)
			}
			seen++
		}
		if seen != x.x.Len() {
			t.Fatalf("inside the loop at %d: %d entries", a, seen)
		}
	}
}

// P10.6

func TestNil(t *testing.T) {
	var x *table.Table
	for range 2 {
		if n := x.Len(); n != 0 {
			t.Errorf("Len() = %d", n)
		}
		for _, n := range list(api.Node{}, lit(0), lit(1), vari("a"), vari(""), do(api.OpNeg, 0), do(api.OpNeg), do(api.OpHole), do(api.OpAdd, -1, 0)) {
			refused(t, x, n, api.ErrArg)
		}
		for _, e := range [][]api.Node{nil, {}, list(lit(1)), read(t, "a*a + a*a"), long(api.MaxTerm), long(api.MaxTerm + 1), list(do(api.OpNeg, 0))} {
			if id, bad := x.Add(e); id != 0 || bad != api.ErrArg {
				t.Errorf("Add(%v) = %d, %d", e, id, bad)
			}
		}
		noEntries(t, x, append(strange(0), 0, 1)...)
		all := x.All()
		if all == nil {
			t.Fatal("All() is nil")
		}
		for range 2 {
			for id, n := range all {
				t.Errorf("All() gives %d, %v", id, n)
			}
		}
	}
}

// The rules that hold for all calls

// TestTableNotMadeByNew: R1 holds for it too.
func TestTableNotMadeByNew(t *testing.T) {
	x := pair{&table.Table{}, &plain{}}
	x.agree(t)
	x.find(t, lit(1))
	x.put(t, lit(1))
	x.add(t, read(t, "a*a + 1"))
	x.agree(t)
}

// TestTwoTables: what one is told the other knows nothing of, also while both are asked at one time.
func TestTwoTables(t *testing.T) {
	r := rand.New(rand.NewSource(105))
	x, y := paired(), paired()
	for range 30 {
		x.add(t, random(r, 1+r.Intn(12)))
		y.agree(t)
		y.add(t, random(r, 1+r.Intn(12)))
		x.agree(t)
	}
	for id := range x.x.Len() {
		n, _ := x.x.Node(id)
		y.find(t, n)
	}
	done := make(chan string)
	for range 8 {
		go func() {
			r := rand.New(rand.NewSource(106))
			x := table.New()
			for range 40 {
				x.Add(random(r, 1+r.Intn(30)))
				x.Put(do(api.OpNeg, r.Intn(x.Len())))
			}
			done <- picture(x)
		}()
	}
	first := <-done
	for range 7 {
		if other := <-done; other != first {
			t.Errorf("of the same expressions: %s and %s", first, other)
		}
	}
}

// roomy is a copy of a list whose lists all have spare room, with something in it.
func roomy(l []api.Node) []api.Node {
	out := make([]api.Node, 0, len(l)+3)
	for _, n := range l {
		k := append(slices.Clone(n.Kids), 0, 1, 0)
		n.Kids = k[:len(n.Kids)]
		out = append(out, n)
	}
	copy(out[len(l):cap(out)], list(lit(90), vari("spare"), do(api.OpNeg, 0)))
	return out
}

// whole is all that a list holds, spare room too.
func whole(l []api.Node) string {
	var s strings.Builder
	for _, n := range l[:cap(l)] {
		fmt.Fprint(&s, n.Op, n.N, n.Name, len(n.Kids), n.Kids[:cap(n.Kids)], ";")
	}
	return s.String()
}

// spoil writes into all that a list holds, spare room too.
func spoil(l []api.Node) {
	for i := range l[:cap(l)] {
		n := &l[:cap(l)][i]
		for k := range n.Kids[:cap(n.Kids)] {
			n.Kids[:cap(n.Kids)][k] = 77
		}
		*n = api.Node{Op: -7, N: 7, Name: "spoilt"}
	}
}

// TestHandedInIsLeft: lists that are handed in are not changed, and what is written into them later is not seen.
func TestHandedInIsLeft(t *testing.T) {
	r := rand.New(rand.NewSource(107))
	x := paired()
	for i := range 200 {
		e := roomy(random(r, 1+r.Intn(20)))
		was := whole(e)
		x.add(t, e)
		x.x.Add(e)
		if whole(e) != was {
			t.Fatalf("Add has changed what was handed in: %s, was %s", whole(e), was)
		}
		spoil(e)
		if i%10 == 0 {
			x.agree(t)
		}
		kids := roomy(list(do(api.OpIf, r.Intn(x.x.Len()), r.Intn(x.x.Len()), r.Intn(x.x.Len()))))
		was = whole(kids)
		x.put(t, kids[0])
		x.x.Find(kids[0])
		if whole(kids) != was {
			t.Fatalf("Put or Find has changed what was handed in: %s, was %s", whole(kids), was)
		}
		spoil(kids)
		if i%10 == 0 {
			x.agree(t)
		}
	}
	for what, e := range faults() {
		e = roomy(e)
		was := whole(e)
		x.x.Add(e)
		if whole(e) != was {
			t.Errorf("Add has changed a list that is not sound (%s)", what)
		}
	}
	x.agree(t)
}

// TestNamesAreNotKept: a name that is a piece of a great text does not hold on to it.
func TestNamesAreNotKept(t *testing.T) {
	x := table.New()
	text := strings.Repeat("abcdefgh", 500)
	x.Put(vari(text[8:12]))
	x.Add(list(vari(text[16:21]), do(api.OpNeg, 0)))
	begin := uintptr(unsafe.Pointer(unsafe.StringData(text)))
	for id, n := range x.All() {
		if n.Op != api.OpVar {
			continue
		}
		if at := uintptr(unsafe.Pointer(unsafe.StringData(n.Name))); at >= begin && at < begin+uintptr(len(text)) {
			t.Errorf("entry %d keeps a piece of the text that was handed in", id)
		}
	}
}

// cells has the address of every element that lists hold, spare room too.
func cells(nodes []api.Node) []any {
	var out []any
	for i := range nodes[:cap(nodes)] {
		n := &nodes[:cap(nodes)][i]
		out = append(out, n)
		for k := range n.Kids[:cap(n.Kids)] {
			out = append(out, &n.Kids[:cap(n.Kids)][k])
		}
	}
	return out
}

// TestAnswersHaveTheirOwnMemory: no two answers share any, no two lists of one answer do, and none shares any with what was handed in.
func TestAnswersHaveTheirOwnMemory(t *testing.T) {
	x := paired()
	e := roomy(read(t, "a*a + a*a - (c ? a*a : ~a)"))
	id := x.add(t, e)
	lists := [][]api.Node{e}
	all := x.x.All()
	for range 3 {
		for k := range x.x.Len() {
			n, _ := x.x.Node(k)
			l, _ := x.x.Expr(k)
			lists = append(lists, list(n), l)
		}
		for _, n := range all {
			lists = append(lists, list(n))
		}
		for _, n := range x.x.All() {
			lists = append(lists, list(n))
		}
		l, _ := x.x.Expr(id)
		lists = append(lists, l)
	}
	owners := map[any]int{}
	for i, l := range lists {
		for _, c := range cells(l) {
			if owners[c] != 0 {
				t.Fatalf("memory of list %d is that of list %d too", i+1, owners[c])
			}
			owners[c] = i + 1
		}
	}
	x.agree(t)
}

// TestAnswersMayBeWritten: what is written into an answer, spare room too, is in no later answer, and what comes later is in no earlier answer.
func TestAnswersMayBeWritten(t *testing.T) {
	r := rand.New(rand.NewSource(108))
	x := paired()
	var kept [][]api.Node
	var were []string
	keep := func(l []api.Node) {
		kept, were = append(kept, l), append(were, fmt.Sprint(l))
	}
	for i := range 40 {
		x.add(t, random(r, 1+r.Intn(20)))
		was := picture(x.x)
		all := x.x.All()
		for id := range x.x.Len() {
			n, _ := x.x.Node(id)
			other, _ := x.x.Node(id)
			e, _ := x.x.Expr(id)
			l, _ := x.x.Expr(id)
			if i%8 == 0 {
				keep(list(other))
				keep(l)
			}
			spoil(list(n))
			spoil(e)
		}
		for range 2 {
			for id, n := range all {
				if !same(n, x.p.nodes[id]) {
					t.Fatalf("All() gives %v, want %v", n, x.p.nodes[id])
				}
				spoil(list(n))
			}
		}
		if is := picture(x.x); is != was {
			t.Fatalf("behind writing into answers: %s, was %s", is, was)
		}
	}
	for i, l := range kept {
		if is := fmt.Sprint(l); is != were[i] {
			t.Fatalf("an answer was %s and became %s", were[i], is)
		}
	}
	x.agree(t)
}

// TestAskingChangesNothing: the same is answered again, however often and in whatever order it is asked.
func TestAskingChangesNothing(t *testing.T) {
	r := rand.New(rand.NewSource(109))
	x := paired()
	for range 20 {
		x.add(t, random(r, 1+r.Intn(30)))
	}
	was := picture(x.x)
	for range 500 {
		id := r.Intn(x.x.Len()+2) - 1
		n, _ := x.x.Node(id)
		x.x.Find(n)
		x.x.Find(do(api.OpXor, id, id))
		x.x.Expr(id)
		x.x.Size(id)
		x.x.Len()
		for k := range x.x.All() {
			if k == id {
				break
			}
		}
	}
	if is := picture(x.x); is != was {
		t.Fatalf("%s was %s", is, was)
	}
	x.agree(t)
}

// The chapter's examples.

func TestExamples(t *testing.T) {
	x := table.New()
	sum := read(t, "a*a + a*a")
	if id, bad := x.Add(sum); id != 2 || bad != api.OK {
		t.Fatalf("Add = %d, %d", id, bad)
	}
	given(t, x, list(vari("a"), do(api.OpMul, 0, 0), do(api.OpAdd, 1, 1)))
	if n, bad := x.Size(2); n != 7 || bad != api.OK {
		t.Errorf("Size(2) = %d, %d", n, bad)
	}
	if e, bad := x.Expr(2); !sameAll(e, sum) || bad != api.OK {
		t.Errorf("Expr(2) = %v, %d", e, bad)
	}
	refused(t, x, do(api.OpNeg, 5), api.ErrArg)
	refused(t, x, do(api.OpAdd, 0), api.ErrForm)
	if id, bad := x.Find(lit(1)); id != 0 || bad != api.ErrNone {
		t.Errorf("Find(1) = %d, %d", id, bad)
	}
	noEntries(t, x, 3)
	id := 0
	for range 32 {
		id, _ = x.Put(do(api.OpAdd, id, id))
	}
	if n, bad := x.Size(id); n != api.MaxSize || bad != api.OK {
		t.Errorf("Size of doublings = %d, %d", n, bad)
	}
	if e, bad := x.Expr(id); len(e) != 0 || bad != api.ErrLarge {
		t.Errorf("Expr of doublings = %v, %d", e, bad)
	}
}
