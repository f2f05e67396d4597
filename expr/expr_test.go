package expr_test

import (
	"cmp"
	"errors"
	"fmt"
	"math"
	"math/rand"
	"runtime"
	"slices"
	"strings"
	"testing"

	"sorrel/api"
	"sorrel/expr"
)

// tree is an expression as a tree: what the answers are held against is worked out on it.
type tree struct {
	op    int
	n     int64
	name  string
	parts []tree
}

func lit(n int64) tree               { return tree{op: api.OpLit, n: n} }
func vari(s string) tree             { return tree{op: api.OpVar, name: s} }
func do(op int, parts ...tree) tree  { return tree{op: op, parts: parts} }
func list(l ...api.Node) []api.Node  { return l }
func kids(op int, k ...int) api.Node { return api.Node{Op: op, Kids: k} }

// nodes writes a tree out as the list that DOC.md's word 'Expression' tells of.
func (t tree) nodes() []api.Node {
	var l []api.Node
	t.write(&l)
	return l
}

func (t tree) write(l *[]api.Node) {
	var k []int
	for _, p := range t.parts {
		p.write(l)
		k = append(k, len(*l)-1)
	}
	*l = append(*l, api.Node{Op: t.op, N: t.n, Name: t.name, Kids: k})
}

func (t tree) size() int {
	n := 1
	for _, p := range t.parts {
		n += p.size()
	}
	return n
}

func (t tree) depth() int {
	d := 0
	for _, p := range t.parts {
		d = max(d, p.depth())
	}
	return d + 1
}

// all gives every part of a tree, itself too, in the order in which they are finished.
func (t tree) all() []tree {
	var l []tree
	for _, p := range t.parts {
		l = append(l, p.all()...)
	}
	return append(l, t)
}

// with is the tree with another in the place of the one that is finished as number at (from 0 on).
func (t tree) with(at int, other tree) tree {
	if at == t.size()-1 {
		return other
	}
	t.parts = slices.Clone(t.parts)
	for i, p := range t.parts {
		if at < p.size() {
			t.parts[i] = p.with(at, other)
			return t
		}
		at -= p.size()
	}
	panic("no such place")
}

// order is DOC.md's order of expressions, sentence by sentence.
func order(a, b tree) int {
	if a.size() != b.size() {
		return cmp.Compare(a.size(), b.size())
	}
	if a.op != b.op {
		return cmp.Compare(a.op, b.op)
	}
	switch a.op {
	case api.OpLit:
		return cmp.Compare(a.n, b.n)
	case api.OpVar:
		return slices.Compare([]rune(a.name), []rune(b.name))
	}
	for i := range a.parts {
		if c := order(a.parts[i], b.parts[i]); c != 0 {
			return c
		}
	}
	return 0
}

// text tells two lists apart, node by node; an empty list of kids is the same as none.
func text(l []api.Node) string {
	var s strings.Builder
	for _, n := range l {
		fmt.Fprintf(&s, "%d %d %q %v; ", n.Op, n.N, n.Name, n.Kids)
	}
	return s.String()
}

// trees has every tree of 1 to 4 nodes over four leaves and four operators.
func trees() []tree {
	of := [][]tree{nil, {lit(0), lit(-1), vari("a"), vari("é")}}
	for size := 2; size <= 4; size++ {
		var l []tree
		for _, a := range of[size-1] {
			l = append(l, do(api.OpNeg, a), do(api.OpNot, a))
		}
		for left := 1; left < size-1; left++ {
			for _, a := range of[left] {
				for _, b := range of[size-1-left] {
					l = append(l, do(api.OpSub, a, b))
				}
			}
		}
		if size == 4 {
			for _, a := range of[1] {
				for _, b := range of[1] {
					for _, c := range of[1] {
						l = append(l, do(api.OpIf, a, b, c))
					}
				}
			}
		}
		of = append(of, l)
	}
	return slices.Concat(of...)
}

var arities = []int{0, 0, 0, 1, 1, 2, 2, 2, 2, 2, 2, 2, 2, 2, 2, 2, 2, 3}

// random is a tree of just that size.
func random(r *rand.Rand, size int) tree {
	if size == 1 {
		names := []string{"a", "ab", "b", "é", "x₂", "名", "\U00010400", "z"}
		numbers := []int64{0, 1, -1, math.MinInt64, math.MaxInt64}
		if r.Intn(2) == 0 {
			return lit(numbers[r.Intn(len(numbers))])
		}
		return vari(names[r.Intn(len(names))])
	}
	t := tree{op: 3 + r.Intn(15)}
	for arities[t.op] >= size {
		t.op = 3 + r.Intn(15)
	}
	left := size - 1
	for i := arities[t.op]; i > 1; i-- {
		k := 1 + r.Intn(left-i+1)
		t.parts = append(t.parts, random(r, k))
		left -= k
	}
	t.parts = append(t.parts, random(r, left))
	r.Shuffle(len(t.parts), func(i, j int) { t.parts[i], t.parts[j] = t.parts[j], t.parts[i] })
	return t
}

// long is a tree of just that size: negations of a variable.
func long(size int) tree {
	t := vari("v")
	for t.size() < size {
		t = do(api.OpNeg, t)
	}
	return t
}

// faults: lists that are not sound, of every kind that the word 'sound' shuts out.
func faults() map[string][]api.Node {
	a, one := vari("a").nodes()[0], lit(1).nodes()[0]
	l := map[string][]api.Node{
		"nil":                       nil,
		"no nodes":                  {},
		"too many nodes":            long(api.MaxTerm + 1).nodes(),
		"far too many nodes":        make([]api.Node, 1<<16),
		"op 0":                      list(api.Node{}),
		"op -1":                     list(api.Node{Op: -1}),
		"op far below 0":            list(api.Node{Op: math.MinInt}),
		"op 18, a hole":             list(api.Node{Op: api.OpHole, Name: "a"}),
		"op 18 with parts":          list(a, one, kids(api.OpHole, 0, 1)),
		"op far above":              list(api.Node{Op: math.MaxInt}),
		"a part with op 0":          list(api.Node{}, kids(api.OpNeg, 0)),
		"literal with a name":       list(api.Node{Op: api.OpLit, Name: "a"}),
		"literal with a part":       list(one, kids(api.OpLit, 0)),
		"variable with a part":      list(one, api.Node{Op: api.OpVar, Name: "a", Kids: []int{0}}),
		"variable with N":           list(api.Node{Op: api.OpVar, Name: "a", N: 1}),
		"variable without a name":   list(api.Node{Op: api.OpVar}),
		"variable with a number":    list(api.Node{Op: api.OpVar, Name: "3"}),
		"variable with a blank":     list(api.Node{Op: api.OpVar, Name: "a b"}),
		"variable with a bad byte":  list(api.Node{Op: api.OpVar, Name: "a\xff"}),
		"variable of 17 characters": list(api.Node{Op: api.OpVar, Name: strings.Repeat("é", 17)}),
		"operator with N":           list(one, api.Node{Op: api.OpNeg, N: 1, Kids: []int{0}}),
		"operator with a name":      list(one, api.Node{Op: api.OpNeg, Name: "a", Kids: []int{0}}),
		"neg without parts":         list(kids(api.OpNeg)),
		"neg with two parts":        list(a, one, kids(api.OpNeg, 0, 1)),
		"not with two parts":        list(a, one, kids(api.OpNot, 0, 1)),
		"add without parts":         list(kids(api.OpAdd)),
		"add alone":                 list(kids(api.OpAdd, 0, 1)),
		"add with one part":         list(a, kids(api.OpAdd, 0)),
		"add with three parts":      list(a, a, a, kids(api.OpAdd, 0, 1, 2)),
		"if with two parts":         list(a, a, kids(api.OpIf, 0, 1)),
		"if with four parts":        list(a, a, a, a, kids(api.OpIf, 0, 1, 2, 3)),
		"parts the wrong way round": list(a, one, kids(api.OpAdd, 1, 0)),
		"one part twice":            list(a, kids(api.OpAdd, 0, 0)),
		"the last part twice":       list(a, one, kids(api.OpAdd, 1, 1)),
		"itself as a part":          list(kids(api.OpNeg, 0)),
		"itself as a later part":    list(a, kids(api.OpAdd, 0, 1)),
		"a part behind it":          list(kids(api.OpNeg, 1), a),
		"part -1 alone":             list(kids(api.OpNeg, -1)),
		"part -1 and 0":             list(a, kids(api.OpAdd, -1, 0)),
		"parts -2 and -1":           list(kids(api.OpAdd, -2, -1)),
		"parts -1, 0, 1":            list(a, a, kids(api.OpIf, -1, 0, 1)),
		"a part far below":          list(a, kids(api.OpNeg, math.MinInt)),
		"a part far above":          list(a, kids(api.OpNeg, math.MaxInt)),
		"two wholes":                list(one, one),
		"a node that is no part":    list(a, one, kids(api.OpNeg, 1)),
		"no part in the middle":     list(a, one, a, kids(api.OpAdd, 0, 2)),
		"a gap between":             list(a, a, a, kids(api.OpAdd, 0, 1)),
		"part of a part":            list(a, kids(api.OpNeg, 0), kids(api.OpAdd, 0, 1)),
		"part of two":               list(a, kids(api.OpNeg, 0), kids(api.OpNeg, 0), kids(api.OpAdd, 1, 2)),
		"right part finished first": list(a, one, kids(api.OpNeg, 0), kids(api.OpAdd, 1, 2)),
	}
	for op := api.OpNeg; op <= api.OpIf; op++ {
		l[fmt.Sprint("op ", op, " without parts")] = list(kids(op))
	}
	return l
}

// P2.1

func TestArity(t *testing.T) {
	for op := api.OpLit; op <= api.OpIf; op++ {
		if n, e := expr.Arity(op); n != arities[op] || e != api.OK {
			t.Errorf("Arity(%d) = %d, %d", op, n, e)
		}
	}
	for _, op := range []int{math.MinInt, -17, -1, 0, api.OpHole, 19, 1 << 32, 1<<32 + 5, math.MaxInt} {
		if n, e := expr.Arity(op); n != 0 || e != api.ErrArg {
			t.Errorf("Arity(%d) = %d, %d", op, n, e)
		}
	}
}

func TestCheckSound(t *testing.T) {
	sound := trees()
	r := rand.New(rand.NewSource(1))
	for size := 1; size <= api.MaxTerm; size++ {
		sound = append(sound, random(r, size), long(size))
	}
	for op := api.OpNeg; op <= api.OpIf; op++ {
		parts := []tree{vari("a"), do(api.OpNeg, lit(1)), vari("c")}
		sound = append(sound, do(op, parts[:arities[op]]...))
	}
	sound = append(sound, vari(strings.Repeat("é", 16)), lit(math.MinInt64), lit(math.MaxInt64))
	for _, x := range sound {
		if e := expr.Check(x.nodes()); e != api.OK {
			t.Fatalf("Check(%s) = %d", text(x.nodes()), e)
		}
	}
	empty := list(api.Node{Op: api.OpLit, Kids: []int{}})
	if e := expr.Check(empty); e != api.OK {
		t.Errorf("Check of a literal whose kids are empty, not nil: %d", e)
	}
}

func TestCheckNotSound(t *testing.T) {
	for what, l := range faults() {
		if e := expr.Check(l); e != api.ErrForm {
			t.Errorf("Check of a list with a fault (%s): %d", what, e)
		}
	}
}

// TestCheckAll holds Check against the lists that trees are written out as: it must take these of all lists of up to four nodes, and no other.
func TestCheckAll(t *testing.T) {
	leaf := vari("a").nodes()[0]
	letters := []api.Node{leaf}
	for i := -1; i <= 4; i++ {
		letters = append(letters, kids(api.OpNeg, i))
		for j := -1; j <= 4; j++ {
			letters = append(letters, kids(api.OpAdd, i, j))
		}
	}
	for i := range 3 {
		letters = append(letters, kids(api.OpIf, i, i+1, i+2))
	}
	sound := map[string]bool{}
	a := vari("a")
	n, nn, p := do(api.OpNeg, a), do(api.OpNeg, do(api.OpNeg, a)), do(api.OpAdd, a, a)
	for _, x := range []tree{a, n, nn, p, do(api.OpNeg, nn), do(api.OpNeg, p), do(api.OpAdd, a, n), do(api.OpAdd, n, a), do(api.OpIf, a, a, a)} {
		sound[fmt.Sprint(x.nodes())] = true
	}
	found := 0
	var walk func(l []api.Node)
	walk = func(l []api.Node) {
		if e := expr.Check(l); e == api.OK {
			found++
			if !sound[fmt.Sprint(l)] {
				t.Errorf("Check(%s) is OK", text(l))
			}
		} else if e != api.ErrForm {
			t.Errorf("Check(%s) = %d", text(l), e)
		}
		if len(l) < 4 {
			for _, x := range letters {
				walk(append(l, x))
			}
		}
	}
	walk(make([]api.Node, 0, 4))
	if found != len(sound) {
		t.Errorf("%d lists are sound, want %d", found, len(sound))
	}
}

// P2.2

func TestMake(t *testing.T) {
	for _, x := range trees() {
		var parts [][]api.Node
		for _, p := range x.parts {
			parts = append(parts, p.nodes())
		}
		got, e := expr.Make(x.op, x.n, x.name, parts...)
		if e != api.OK || text(got) != text(x.nodes()) {
			t.Fatalf("Make of %s: %s, %d", text(x.nodes()), text(got), e)
		}
	}
	r := rand.New(rand.NewSource(2))
	for op := api.OpNeg; op <= api.OpIf; op++ {
		for range 50 {
			var parts [][]api.Node
			x := do(op)
			for range arities[op] {
				x.parts = append(x.parts, random(r, 1+r.Intn(21)))
				parts = append(parts, x.parts[len(x.parts)-1].nodes())
			}
			if got, e := expr.Make(op, 0, "", parts...); e != api.OK || text(got) != text(x.nodes()) {
				t.Fatalf("Make of %s: %s, %d", text(x.nodes()), text(got), e)
			}
		}
	}
}

func TestMakeErrors(t *testing.T) {
	a, one, bad := vari("a").nodes(), lit(1).nodes(), append(lit(1).nodes(), lit(2).nodes()...)
	full, half := long(api.MaxTerm).nodes(), long(32).nodes()
	type parts = [][]api.Node
	for i, c := range []struct {
		op    int
		n     int64
		name  string
		parts parts
		want  api.Errno
	}{
		{api.OpLit, math.MinInt64, "", nil, api.OK},
		{api.OpVar, 0, strings.Repeat("é", 16), nil, api.OK},
		{api.OpVar, 0, strings.Repeat("é", 17), nil, api.ErrArg},
		{api.OpVar, 0, "3", nil, api.ErrArg},
		{api.OpVar, 0, "", nil, api.ErrArg},
		{api.OpVar, 0, "a\xff", nil, api.ErrArg},
		{api.OpVar, 1, "a", nil, api.ErrArg},
		{api.OpVar, 0, "a", parts{a}, api.ErrArg},
		{api.OpLit, 1, "a", nil, api.ErrArg},
		{api.OpLit, 1, "", parts{a}, api.ErrArg},
		{api.OpNeg, 1, "", parts{a}, api.ErrArg},
		{api.OpNeg, 0, "a", parts{a}, api.ErrArg},
		{api.OpNeg, 0, "", nil, api.ErrArg},
		{api.OpNeg, 0, "", parts{a, a}, api.ErrArg},
		{api.OpNeg, 0, "", parts{bad}, api.ErrForm},
		{api.OpNeg, 0, "", parts{nil}, api.ErrForm},
		{api.OpAdd, 0, "", parts{a}, api.ErrArg},
		{api.OpAdd, 0, "", parts{a, one, a}, api.ErrArg},
		{api.OpAdd, -1, "", parts{a, one}, api.ErrArg},
		{api.OpAdd, 0, "", parts{a, bad}, api.ErrForm},
		{api.OpIf, 0, "", parts{a, a}, api.ErrArg},
		{api.OpIf, 0, "", parts{a, a, a, a}, api.ErrArg},
		{api.OpIf, 0, "", parts{a, a, bad}, api.ErrForm},
		{0, 0, "", nil, api.ErrArg},
		{-1, 0, "", nil, api.ErrArg},
		{api.OpHole, 0, "a", nil, api.ErrArg},
		{math.MaxInt, 0, "", parts{a}, api.ErrArg},
		{math.MinInt, 0, "", parts{a}, api.ErrArg},
		// The greatest, and one node more.
		{api.OpNeg, 0, "", parts{long(63).nodes()}, api.OK},
		{api.OpNeg, 0, "", parts{full}, api.ErrLarge},
		{api.OpAdd, 0, "", parts{half, long(31).nodes()}, api.OK},
		{api.OpAdd, 0, "", parts{half, half}, api.ErrLarge},
		{api.OpIf, 0, "", parts{half, long(30).nodes(), a}, api.OK},
		{api.OpIf, 0, "", parts{full, full, full}, api.ErrLarge},
		// Of several errors the first in the row.
		{0, 1, "a", parts{a, bad}, api.ErrForm},
		{api.OpNeg, 0, "", parts{a, bad}, api.ErrForm},
		{api.OpVar, 0, "3", parts{bad}, api.ErrForm},
		{api.OpAdd, 0, "", parts{full, full, full}, api.ErrArg},
		{api.OpAdd, 1, "", parts{full, full}, api.ErrArg},
		{api.OpAdd, 0, "", parts{full, long(65).nodes()}, api.ErrForm},
	} {
		got, e := expr.Make(c.op, c.n, c.name, c.parts...)
		if e != c.want || e != api.OK && len(got) != 0 || e == api.OK && expr.Check(got) != api.OK {
			t.Errorf("Make of row %d: %s, %d, want %d", i, text(got), e, c.want)
		}
	}
	for what, l := range faults() {
		for i := range 3 {
			p := parts{a, a, a}
			p[i] = l
			if got, e := expr.Make(api.OpIf, 0, "", p...); len(got) != 0 || e != api.ErrForm {
				t.Errorf("Make with a part with a fault (%s): %s, %d", what, text(got), e)
			}
		}
	}
	if _, e := expr.Make(api.OpAdd, 0, "", slices.Repeat(parts{a}, 1<<16)...); e != api.ErrArg {
		t.Errorf("Make with many parts: %d", e)
	}
}

// P2.3, P2.4

func TestPart(t *testing.T) {
	all := trees()
	r := rand.New(rand.NewSource(3))
	for size := 1; size <= api.MaxTerm; size++ {
		all = append(all, random(r, size), long(size))
	}
	for _, x := range all {
		l := x.nodes()
		for at, want := range x.all() {
			if got, e := expr.Part(l, at); e != api.OK || text(got) != text(want.nodes()) {
				t.Fatalf("Part(%s, %d) = %s, %d", text(l), at, text(got), e)
			}
		}
		for _, at := range []int{math.MinInt, -1, len(l), len(l) + 1, math.MaxInt} {
			if got, e := expr.Part(l, at); e != api.ErrArg || len(got) != 0 {
				t.Fatalf("Part(%s, %d) = %s, %d", text(l), at, text(got), e)
			}
		}
	}
}

func TestPut(t *testing.T) {
	parts := []tree{lit(9), vari("名"), do(api.OpNeg, vari("c")), do(api.OpIf, vari("x"), do(api.OpAdd, lit(1), lit(2)), vari("y"))}
	for _, x := range trees() {
		for at := range x.size() {
			for _, p := range parts {
				checkPut(t, x, at, p)
			}
		}
	}
	r := rand.New(rand.NewSource(4))
	for range 3000 {
		x := random(r, 1+r.Intn(api.MaxTerm))
		checkPut(t, x, r.Intn(x.size()), random(r, 1+r.Intn(api.MaxTerm)))
	}
}

func checkPut(t *testing.T, x tree, at int, p tree) {
	t.Helper()
	want, bad := x.with(at, p).nodes(), api.OK
	if len(want) > api.MaxTerm {
		want, bad = nil, api.ErrLarge
	}
	if got, e := expr.Put(x.nodes(), at, p.nodes()); e != bad || text(got) != text(want) {
		t.Fatalf("Put(%s, %d, %s) = %s, %d", text(x.nodes()), at, text(p.nodes()), text(got), e)
	}
}

func TestPutErrors(t *testing.T) {
	a, full, x := vari("a").nodes(), long(api.MaxTerm).nodes(), do(api.OpAdd, vari("a"), lit(1)).nodes()
	for i, c := range []struct {
		e    []api.Node
		at   int
		part []api.Node
		want api.Errno
	}{
		{full, 0, a, api.OK},
		{full, 0, do(api.OpNeg, vari("a")).nodes(), api.ErrLarge},
		{full, 63, full, api.OK},
		{full, 62, full, api.ErrLarge},
		{x, 0, long(62).nodes(), api.OK},
		{x, 0, long(63).nodes(), api.ErrLarge},
		{x, 1, long(63).nodes(), api.ErrLarge},
		{x, 2, full, api.OK},
		{x, 3, a, api.ErrArg},
		{x, -1, a, api.ErrArg},
		{x, math.MinInt, a, api.ErrArg},
		{x, math.MaxInt, a, api.ErrArg},
		// Of several errors the first in the row.
		{x, -1, full, api.ErrArg},
		{full, 64, full, api.ErrArg},
		{nil, 0, a, api.ErrForm},
		{a, 0, nil, api.ErrForm},
		{nil, -1, a, api.ErrForm},
		{a, 1, nil, api.ErrForm},
		{full, 5, long(65).nodes(), api.ErrForm},
	} {
		got, e := expr.Put(c.e, c.at, c.part)
		if e != c.want || e != api.OK && len(got) != 0 || e == api.OK && expr.Check(got) != api.OK {
			t.Errorf("Put of row %d: %s, %d, want %d", i, text(got), e, c.want)
		}
	}
}

// P2.5

func TestDepthAndVars(t *testing.T) {
	all := trees()
	r := rand.New(rand.NewSource(5))
	for size := 1; size <= api.MaxTerm; size++ {
		all = append(all, random(r, size), long(size))
	}
	for _, x := range all {
		if d, e := expr.Depth(x.nodes()); d != x.depth() || e != api.OK {
			t.Fatalf("Depth(%s) = %d, %d", text(x.nodes()), d, e)
		}
		once := map[string]bool{}
		want := []string{}
		for _, p := range x.all() {
			if p.op == api.OpVar && !once[p.name] {
				once[p.name] = true
				want = append(want, p.name)
			}
		}
		slices.SortFunc(want, func(a, b string) int { return slices.Compare([]rune(a), []rune(b)) })
		if l, e := expr.Vars(x.nodes()); !slices.Equal(l, want) || e != api.OK {
			t.Fatalf("Vars(%s) = %q, %d", text(x.nodes()), l, e)
		}
	}
}

func TestDepthOfUneven(t *testing.T) {
	deep, flat := long(5), vari("a")
	for i, x := range []tree{do(api.OpAdd, deep, flat), do(api.OpAdd, flat, deep), do(api.OpIf, flat, deep, flat), do(api.OpIf, deep, flat, flat)} {
		if d, e := expr.Depth(x.nodes()); d != 6 || e != api.OK {
			t.Errorf("Depth of tree %d: %d, %d", i, d, e)
		}
	}
}

func TestVarsOrder(t *testing.T) {
	x := vari("\U00010400")
	for _, s := range []string{"b", "é", "ab", "龍", "a", "b", "Z", "_", "a₀", "\U00010400", "a"} {
		x = do(api.OpAdd, x, vari(s))
	}
	l, e := expr.Vars(x.nodes())
	if want := []string{"Z", "_", "a", "ab", "a₀", "b", "é", "龍", "\U00010400"}; !slices.Equal(l, want) || e != api.OK {
		t.Errorf("Vars: %q, %d, want %q", l, e, want)
	}
}

// P2.6

func TestOrder(t *testing.T) {
	all := trees()
	all = append(all, vari("aa"), vari("b"), vari("ab"), vari("\U00010400"), vari("龍"), lit(math.MinInt64), lit(math.MaxInt64))
	for op := api.OpAdd; op <= api.OpLt; op++ {
		all = append(all, do(op, vari("a"), vari("b")), do(op, vari("a"), do(api.OpNot, lit(3))), do(op, do(api.OpNeg, lit(4)), lit(2)))
	}
	r := rand.New(rand.NewSource(6))
	for range 60 {
		x := random(r, api.MaxTerm)
		y := x.with(0, lit(77))
		all = append(all, x, y)
	}
	for _, a := range all {
		for _, b := range all {
			if c, e := expr.Order(a.nodes(), b.nodes()); c != order(a, b) || e != api.OK {
				t.Fatalf("Order(%s, %s) = %d, %d", text(a.nodes()), text(b.nodes()), c, e)
			}
		}
	}
}

// TestOrderByHand: rows in which one sentence of the order alone tells, against what the others would.
func TestOrderByHand(t *testing.T) {
	a, b, n := vari("a"), vari("b"), func(x tree) tree { return do(api.OpNeg, x) }
	for i, c := range []struct{ less, more tree }{
		{vari("z"), n(lit(0))}, // the size ahead of the operator
		{do(api.OpLt, a, b), do(api.OpNeg, n(n(a)))},
		{lit(9), a}, // the operator of two of one size
		{do(api.OpAdd, b, b), do(api.OpSub, a, a)},
		{do(api.OpNeg, n(b)), do(api.OpAdd, a, a)},
		{lit(-5), lit(3)}, // the number, with its sign
		{lit(math.MinInt64), lit(math.MaxInt64)},
		{a, vari("aa")}, // the name
		{vari("龍"), vari("\U00010400")},
		{vari("Z"), a},
		{do(api.OpAdd, a, b), do(api.OpAdd, b, a)}, // the first part that differs
		{do(api.OpAdd, b, n(a)), do(api.OpAdd, n(a), a)},
		{do(api.OpIf, a, a, b), do(api.OpIf, a, b, a)},
		{do(api.OpIf, a, b, lit(1)), do(api.OpIf, a, b, lit(2))},
	} {
		x, y := c.less.nodes(), c.more.nodes()
		if k, e := expr.Order(x, y); k != -1 || e != api.OK {
			t.Errorf("row %d: Order = %d, %d, want -1", i, k, e)
		}
		if k, e := expr.Order(y, x); k != 1 || e != api.OK {
			t.Errorf("row %d, the other way round: Order = %d, %d, want 1", i, k, e)
		}
		if k, e := expr.Order(x, c.less.nodes()); k != 0 || e != api.OK {
			t.Errorf("row %d, with itself: Order = %d, %d, want 0", i, k, e)
		}
	}
	empty := list(api.Node{Op: api.OpLit, Kids: []int{}})
	if k, e := expr.Order(empty, lit(0).nodes()); k != 0 || e != api.OK {
		t.Errorf("Order of one whose kids are empty, not nil: %d, %d", k, e)
	}
}

// P2.7

func TestSwap(t *testing.T) {
	all := trees()
	r := rand.New(rand.NewSource(7))
	for size := 1; size <= api.MaxTerm; size++ {
		all = append(all, random(r, size))
	}
	for _, x := range all {
		var asked, told []string
		want := x.nodes()
		for i, n := range want {
			if n.Op == api.OpVar {
				told = append(told, n.Name)
				want[i].Name = fmt.Sprint("q", len(told))
			}
		}
		got, e := expr.Swap(x.nodes(), func(name string) string {
			asked = append(asked, name)
			return fmt.Sprint("q", len(asked))
		})
		if e != api.OK || text(got) != text(want) || !slices.Equal(asked, told) {
			t.Fatalf("Swap(%s) = %s, %d; asked for %q", text(x.nodes()), text(got), e, asked)
		}
	}
}

func TestSwapNoName(t *testing.T) {
	x := do(api.OpIf, vari("a"), do(api.OpAdd, vari("b"), lit(1)), vari("c")).nodes()
	for _, bad := range []string{"", "3", "a b", "\xff", "a\xff", "₂", strings.Repeat("x", 17), strings.Repeat("x", 1<<16)} {
		for stop := 1; stop <= 3; stop++ {
			calls := 0
			got, e := expr.Swap(x, func(string) string {
				if calls++; calls == stop {
					return bad
				}
				return strings.Repeat("é", 16)
			})
			if len(got) != 0 || e != api.ErrName || calls != stop {
				t.Errorf("Swap, answer %d is %q: %s, %d after %d calls", stop, bad, text(got), e, calls)
			}
		}
	}
}

func TestSwapErrors(t *testing.T) {
	if got, e := expr.Swap(vari("a").nodes(), nil); len(got) != 0 || e != api.ErrArg {
		t.Errorf("Swap by nil: %s, %d", text(got), e)
	}
	if got, e := expr.Swap(lit(1).nodes(), nil); len(got) != 0 || e != api.ErrArg {
		t.Errorf("Swap by nil, where there is no name: %s, %d", text(got), e)
	}
	if got, e := expr.Swap(nil, nil); len(got) != 0 || e != api.ErrForm {
		t.Errorf("Swap of nothing by nil: %s, %d", text(got), e)
	}
	got, e := expr.Swap(lit(1).nodes(), func(string) string { panic("called") })
	if text(got) != text(lit(1).nodes()) || e != api.OK {
		t.Errorf("Swap where there is no name: %s, %d", text(got), e)
	}
	for what, l := range faults() {
		calls := 0
		if got, e := expr.Swap(l, func(s string) string { calls++; return "x" }); len(got) != 0 || e != api.ErrForm || calls != 0 {
			t.Errorf("Swap of a list with a fault (%s): %s, %d after %d calls", what, text(got), e, calls)
		}
	}
}

func TestSwapPanics(t *testing.T) {
	x := do(api.OpAdd, vari("a"), vari("b")).nodes()
	err := errors.New("stop")
	for _, v := range []any{"stop", 7, err, x[2].Op} {
		for stop := 1; stop <= 2; stop++ {
			calls := 0
			out := caught(func() {
				expr.Swap(x, func(name string) string {
					if calls++; calls == stop {
						panic(v)
					}
					return name
				})
			})
			if out != v || calls != stop {
				t.Errorf("Swap by what panics with %v: %v after %d calls", v, out, calls)
			}
		}
	}
	out := caught(func() {
		expr.Swap(x, func(string) string { return []string{}[len(x)] })
	})
	if _, ok := out.(runtime.Error); !ok {
		t.Errorf("Swap by what reaches outside a list: %v", out)
	}
}

func caught(f func()) (v any) {
	defer func() { v = recover() }()
	f()
	return nil
}

// TestSwapWhileWritten: what f writes to the list that was handed in is not seen.
func TestSwapWhileWritten(t *testing.T) {
	x := do(api.OpAdd, vari("a"), vari("b")).nodes()
	var asked []string
	got, e := expr.Swap(x, func(name string) string {
		asked = append(asked, name)
		x[0], x[1], x[2] = api.Node{Op: api.OpLit}, api.Node{Op: api.OpVar, Name: "w"}, kids(api.OpSub, 5, 6)
		return name
	})
	want := do(api.OpAdd, vari("a"), vari("b")).nodes()
	if e != api.OK || text(got) != text(want) || !slices.Equal(asked, []string{"a", "b"}) {
		t.Errorf("Swap: %s, %d; asked for %q", text(got), e, asked)
	}
}

// The rules that hold for all calls.

// TestFaults: all calls but Arity and Make answer ErrForm to a list that is not sound, and nothing beside it.
func TestFaults(t *testing.T) {
	a := vari("a").nodes()
	for what, l := range faults() {
		for _, at := range []int{-1, 0, len(l) - 1, len(l)} {
			if got, e := expr.Part(l, at); len(got) != 0 || e != api.ErrForm {
				t.Errorf("Part(.., %d), %s: %s, %d", at, what, text(got), e)
			}
			if got, e := expr.Put(l, at, a); len(got) != 0 || e != api.ErrForm {
				t.Errorf("Put(.., %d, a), %s: %s, %d", at, what, text(got), e)
			}
			if got, e := expr.Put(a, at, l); len(got) != 0 || e != api.ErrForm {
				t.Errorf("Put(a, %d, ..), %s: %s, %d", at, what, text(got), e)
			}
		}
		if d, e := expr.Depth(l); d != 0 || e != api.ErrForm {
			t.Errorf("Depth, %s: %d, %d", what, d, e)
		}
		if v, e := expr.Vars(l); len(v) != 0 || e != api.ErrForm {
			t.Errorf("Vars, %s: %q, %d", what, v, e)
		}
		if c, e := expr.Order(l, a); c != 0 || e != api.ErrForm {
			t.Errorf("Order(.., a), %s: %d, %d", what, c, e)
		}
		if c, e := expr.Order(a, l); c != 0 || e != api.ErrForm {
			t.Errorf("Order(a, ..), %s: %d, %d", what, c, e)
		}
	}
}

// roomy is a copy of a list whose lists all have spare room, with something in it.
func roomy(l []api.Node) []api.Node {
	out := make([]api.Node, 0, len(l)+3)
	for _, n := range l {
		k := append(slices.Clone(n.Kids), 71, 72, 73)
		n.Kids = k[:len(n.Kids)]
		out = append(out, n)
	}
	spare := out[len(l) : len(l)+3]
	for i := range spare {
		spare[i] = api.Node{Op: 90 + i, Name: "spare", Kids: []int{5, 6}}
	}
	return out
}

// whole is all that a list holds, spare room too.
func whole(l []api.Node) string {
	s := ""
	for _, n := range l[:cap(l)] {
		s += fmt.Sprint(n.Op, n.N, n.Name, len(n.Kids), n.Kids[:cap(n.Kids)], ";")
	}
	return s
}

// cells has the address of every element that a list holds, spare room too.
func cells(l []api.Node) []any {
	var out []any
	for i := range l[:cap(l)] {
		n := &l[:cap(l)][i]
		out = append(out, n)
		for j := range n.Kids[:cap(n.Kids)] {
			out = append(out, &n.Kids[:cap(n.Kids)][j])
		}
	}
	return out
}

func TestMemory(t *testing.T) {
	x := roomy(do(api.OpIf, vari("b"), do(api.OpAdd, vari("a"), lit(1)), do(api.OpNeg, vari("b"))).nodes())
	p := roomy(do(api.OpMul, vari("c"), do(api.OpNot, lit(2))).nodes())
	x0, p0 := whole(x), whole(p)
	parts := [][]api.Node{x, p, p, x}[:2]
	calls := map[string]func() ([]api.Node, api.Errno){
		"Make": func() ([]api.Node, api.Errno) { return expr.Make(api.OpAdd, 0, "", parts...) },
		"Make of one twice": func() ([]api.Node, api.Errno) {
			return expr.Make(api.OpAdd, 0, "", p, p)
		},
		"Part":           func() ([]api.Node, api.Errno) { return expr.Part(x, 3) },
		"Part, whole":    func() ([]api.Node, api.Errno) { return expr.Part(x, 6) },
		"Put":            func() ([]api.Node, api.Errno) { return expr.Put(x, 3, p) },
		"Put, a leaf":    func() ([]api.Node, api.Errno) { return expr.Put(x, 0, p) },
		"Put, the whole": func() ([]api.Node, api.Errno) { return expr.Put(x, 6, p) },
		"Put into itself": func() ([]api.Node, api.Errno) {
			return expr.Put(x, 0, x)
		},
		"Swap": func() ([]api.Node, api.Errno) {
			return expr.Swap(x, func(s string) string { return s + s })
		},
	}
	for what, f := range calls {
		first, e := f()
		second, e2 := f()
		if e != api.OK || e2 != api.OK {
			t.Errorf("%s: %d, %d", what, e, e2)
		}
		owners := map[any]int{}
		for i, l := range [][]api.Node{x, p, first, second} {
			for _, c := range cells(l) {
				if owners[c] != 0 {
					t.Fatalf("%s: memory of list %d is that of list %d too", what, i+1, owners[c])
				}
				owners[c] = i + 1
			}
		}
	}
	expr.Check(x)
	expr.Depth(x)
	expr.Order(x, p)
	expr.Order(x, x)
	names, _ := expr.Vars(x)
	other, _ := expr.Vars(x)
	if &names[0] == &other[0] {
		t.Error("two answers of Vars share memory")
	}
	if whole(x) != x0 || whole(p) != p0 || &parts[:4][3][0] != &x[0] || &parts[0][0] != &x[0] || &parts[1][0] != &p[0] {
		t.Error("what was handed in has been changed")
	}
}

// The chapter's examples.

func TestExamples(t *testing.T) {
	a, b, one := vari("a"), vari("b"), lit(1)
	a1 := list(api.Node{Op: api.OpVar, Name: "a"}, api.Node{Op: api.OpLit, N: 1}, kids(api.OpAdd, 0, 1))
	if got, e := expr.Make(api.OpAdd, 0, "", a.nodes(), one.nodes()); text(got) != text(a1) || e != api.OK {
		t.Errorf("a+1: %s, %d", text(got), e)
	}
	x := do(api.OpMul, a, do(api.OpAdd, b, one)).nodes()
	if got, e := expr.Part(x, 3); text(got) != text(do(api.OpAdd, b, one).nodes()) || e != api.OK {
		t.Errorf("Part: %s, %d", text(got), e)
	}
	if _, e := expr.Part(x, 5); e != api.ErrArg {
		t.Errorf("Part at 5: %d", e)
	}
	negC := do(api.OpNeg, vari("c"))
	if got, e := expr.Put(x, 3, negC.nodes()); text(got) != text(do(api.OpMul, a, negC).nodes()) || e != api.OK {
		t.Errorf("Put: %s, %d", text(got), e)
	}
	if d, e := expr.Depth(x); d != 3 || e != api.OK {
		t.Errorf("Depth: %d, %d", d, e)
	}
	if l, e := expr.Vars(do(api.OpAdd, b, do(api.OpMul, a, b)).nodes()); !slices.Equal(l, []string{"a", "b"}) || e != api.OK {
		t.Errorf("Vars: %q, %d", l, e)
	}
	ab, c := do(api.OpAdd, a, b), vari("c")
	for i, r := range []struct {
		a, b tree
		want int
	}{{lit(9), a, -1}, {ab, do(api.OpNeg, c), 1}, {one, lit(2), -1}, {ab, do(api.OpAdd, a, c), -1}, {do(api.OpSub, a, b), do(api.OpAdd, a, c), 1}} {
		if got, e := expr.Order(r.a.nodes(), r.b.nodes()); got != r.want || e != api.OK {
			t.Errorf("Order of pair %d: %d, %d", i, got, e)
		}
	}
	xx := do(api.OpAdd, vari("x"), vari("x"))
	if got, e := expr.Swap(ab.nodes(), func(string) string { return "x" }); text(got) != text(xx.nodes()) || e != api.OK {
		t.Errorf("Swap: %s, %d", text(got), e)
	}
	if got, e := expr.Swap(ab.nodes(), func(string) string { return "" }); len(got) != 0 || e != api.ErrName {
		t.Errorf("Swap by no name: %s, %d", text(got), e)
	}
}
