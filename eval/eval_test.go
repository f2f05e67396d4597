package eval_test

import (
	"fmt"
	"math"
	"math/rand"
	"slices"
	"strconv"
	"strings"
	"testing"

	"sorrel/api"
	"sorrel/box"
	"sorrel/env"
	"sorrel/eval"
	"sorrel/parse"
	"sorrel/show"
)

const (
	least    = math.MinInt64
	greatest = math.MaxInt64
)

// edges are numbers at both ends and in between.
var edges = []int64{least, least + 1, -1 << 32, -65, -64, -63, -7, -2, -1, 0, 1, 2, 7, 31, 32, 63, 64, 65, 1 << 31, 1 << 32, 1 << 62, greatest - 1, greatest}

// read is the expression of a text.
func read(t *testing.T, s string) []api.Node {
	t.Helper()
	e, at, bad := parse.Parse(s)
	if bad != api.OK {
		t.Fatalf("Parse(%q): %d at %d", s, bad, at)
	}
	return e
}

// binds is the environment of a text.
func binds(t *testing.T, s string) []api.Bind {
	t.Helper()
	l, at, bad := env.Read(s)
	if bad != api.OK {
		t.Fatalf("Read(%q): %d at %d", s, bad, at)
	}
	return l
}

// boxed is the term of a sound expression.
func boxed(t *testing.T, e []api.Node) api.Term {
	t.Helper()
	x, bad := box.Box(e)
	if bad != api.OK {
		t.Fatalf("Box(%v): %d", e, bad)
	}
	return x
}

// evals holds what Eval and Term answer, and that Trap finds nothing, against a number.
func evals(t *testing.T, e []api.Node, env []api.Bind, want int64) {
	t.Helper()
	if n, bad := eval.Eval(e, env); n != want || bad != api.OK {
		t.Errorf("Eval(%v, %v) = %d, %d, want %d", e, env, n, bad, want)
	}
	if n, bad := eval.Term(boxed(t, e), env); n != want || bad != api.OK {
		t.Errorf("Term of %v, %v = %d, %d, want %d", e, env, n, bad, want)
	}
	if at, bad := eval.Trap(e, env); at != 0 || bad != api.ErrNone {
		t.Errorf("Trap(%v, %v) = %d, %d", e, env, at, bad)
	}
}

// traps holds the place that Trap answers, and that Eval and Term trap, against a place.
func traps(t *testing.T, e []api.Node, env []api.Bind, want int) {
	t.Helper()
	if n, bad := eval.Eval(e, env); n != 0 || bad != api.ErrTrap {
		t.Errorf("Eval(%v, %v) = %d, %d", e, env, n, bad)
	}
	if n, bad := eval.Term(boxed(t, e), env); n != 0 || bad != api.ErrTrap {
		t.Errorf("Term of %v, %v = %d, %d", e, env, n, bad)
	}
	if at, bad := eval.Trap(e, env); at != want || bad != api.OK {
		t.Errorf("Trap(%v, %v) = %d, %d, want %d", e, env, at, bad, want)
	}
}

// agrees holds all calls on both shapes of a tree against the second reckoning.
func agrees(t *testing.T, x tree, env []api.Bind) {
	t.Helper()
	e := x.nodes()
	want, bad := int64(0), api.ErrTrap
	if n, ok := x.comes(env); ok {
		want, bad = n, api.OK
	}
	if n, got := eval.Eval(e, env); n != want || got != bad {
		t.Fatalf("Eval(%v, %v) = %d, %d, want %d, %d", e, env, n, got, want, bad)
	}
	if n, got := eval.Term(x.term(), env); n != want || got != bad {
		t.Fatalf("Term(%v, %v) = %d, %d, want %d, %d", x.term(), env, n, got, want, bad)
	}
	at, found := x.place(env), api.OK
	if at < 0 {
		at, found = 0, api.ErrNone
	}
	if n, got := eval.Trap(e, env); n != at || got != found {
		t.Fatalf("Trap(%v, %v) = %d, %d, want %d, %d", e, env, n, got, at, found)
	}
}

// P8.1

func TestEvalLiterals(t *testing.T) {
	for _, n := range edges {
		evals(t, lit(n).nodes(), nil, n)
		evals(t, lit(n).nodes(), []api.Bind{{Name: "a", N: 5}, {Name: "", N: 6}, {Name: strconv.FormatInt(n, 10), N: 7}}, n)
	}
}

func TestEvalVariables(t *testing.T) {
	l := binds(t, "a=1, b=2, a=3, c=0, é=-9, x₂=4, A=5, ab=6, d=9223372036854775807, e=-9223372036854775808, d=-1, a=7, c=8, c=0")
	for name, want := range map[string]int64{"a": 7, "b": 2, "c": 0, "é": -9, "x₂": 4, "A": 5, "ab": 6, "d": -1, "e": least, "x": 0, "_": 0, "B": 0, "aa": 0, "abc": 0, "名": 0} {
		evals(t, vari(name).nodes(), l, want)
	}
	evals(t, vari("d").nodes(), l[:9], greatest)
	evals(t, vari("a").nodes(), l[:1], 1)
	evals(t, vari("a").nodes(), l[:3], 3)
	evals(t, read(t, "a*100 + b*10 + a - x"), l, 727)
}

func TestEvalLongNames(t *testing.T) {
	for _, name := range []string{"abcdefghijklmnop", strings.Repeat("é", api.MaxName), strings.Repeat("\U00010400", api.MaxName)} {
		short := string([]rune(name)[:api.MaxName-1])
		l := []api.Bind{{Name: name, N: 5}, {Name: short, N: 6}, {Name: name + "q", N: 7}}
		evals(t, vari(name).nodes(), l, 5)
		evals(t, vari(short).nodes(), l, 6)
	}
}

func TestEvalInNothing(t *testing.T) {
	for _, l := range [][]api.Bind{nil, {}, make([]api.Bind, 0, 5), make([]api.Bind, 5)} {
		evals(t, vari("a").nodes(), l, 0)
		evals(t, read(t, "a + 5 - -b"), l, 5)
		evals(t, read(t, "a ? 1 : 2"), l, 2)
		traps(t, read(t, "1 / a"), l, 2)
	}
}

// TestEvalInAnyList: an environment may have more than MaxBinds Binds, and Names that are no names, which stand for nothing.
func TestEvalInAnyList(t *testing.T) {
	var l []api.Bind
	for i := range 3*api.MaxBinds + 1 {
		l = append(l, api.Bind{Name: "v" + strconv.Itoa(i%(2*api.MaxBinds)), N: int64(i)})
	}
	evals(t, vari("v0").nodes(), l, 2*api.MaxBinds)
	evals(t, vari("v63").nodes(), l, 2*api.MaxBinds+63)
	evals(t, vari("v64").nodes(), l, 3*api.MaxBinds)
	evals(t, vari("v65").nodes(), l, 65)
	evals(t, vari("v127").nodes(), l, 127)
	evals(t, vari("v128").nodes(), l, 0)
	odd := []api.Bind{{Name: "", N: 1}, {Name: "3", N: 2}, {Name: "\xff", N: 3}, {Name: "a\xff", N: 4}, {Name: "a", N: 5}, {Name: "a ", N: 6}, {Name: "\ufffd", N: 7}, {Name: strings.Repeat("a", 1<<16), N: 8}, {Name: "a+b", N: 9}, {Name: "-a", N: 10}}
	evals(t, read(t, "a"), odd, 5)
	evals(t, read(t, "3"), odd, 3)
	evals(t, read(t, "-a"), odd, -5)
	evals(t, read(t, "a+b"), odd, 5)
	many := make([]api.Bind, 1<<16)
	many[100] = api.Bind{Name: "a", N: 7}
	evals(t, read(t, "a"), many, 7)
}

// TestEvalOperators: what the two parts are, and which is the first, by numbers written out.
func TestEvalOperators(t *testing.T) {
	l := binds(t, "a=-7, b=2, c=-9223372036854775808, d=-1, z=0")
	for s, want := range map[string]int64{
		"-a": 7, "-c": least, "-z": 0, "~a": 6, "~z": -1, "~c": greatest, "~~a": -7, "-~a": -6, "~-a": -8,
		"a+b": -5, "c+d": greatest, "c+c": 0, "a-b": -9, "b-a": 9, "c-b": greatest - 1, "z-c": least,
		"a*b": -14, "c*d": least, "c*b": 0, "a/b": -3, "b/a": 0, "c/d": least, "z/a": 0, "a/d": 7,
		"a%b": -1, "b%a": 2, "c%d": 0, "z%b": 0, "7 % a": 0, "9 % -4": 1,
		"a&b": 0, "a&d": -7, "a|b": -5, "a^b": -5, "a^d": 6, "6&3": 2, "6|3": 7, "6^3": 5,
		"b<<a": 1 << 58, "a<<b": -28, "a>>b": -2, "c>>63": -1, "1<<64": 1, "1<<d": least, "d>>d": -1, "d<<64": -1, "1<<63>>63": -1,
		"a==a": 1, "a==b": 0, "a<b": 1, "b<a": 0, "a<a": 0, "c<~c": 1, "~c<c": 0,
		"a?b:c": 2, "z?b:c": least, "b?z:a": 0, "z?a:z": 0, "z?1:z?2:3": 3, "(z?1:2)?(b?3:4):5": 3,
	} {
		evals(t, read(t, s), l, want)
	}
}

// TestEvalOperatorsAtEdges: every operator with all numbers at both ends and in between, as literals and as variables.
func TestEvalOperatorsAtEdges(t *testing.T) {
	a, b, c := vari("a"), vari("b"), vari("c")
	for _, n := range edges {
		l := []api.Bind{{Name: "a", N: n}}
		for op := api.OpNeg; op <= api.OpNot; op++ {
			agrees(t, of(op, lit(n)), nil)
			agrees(t, of(op, a), l)
		}
		for _, m := range edges {
			l := append(slices.Clip(l), api.Bind{Name: "b", N: m})
			for op := api.OpAdd; op <= api.OpLt; op++ {
				agrees(t, of(op, lit(n), lit(m)), nil)
				agrees(t, of(op, a, b), l)
				agrees(t, of(op, a, lit(m)), l)
				agrees(t, of(op, lit(n), b), l)
			}
			for _, k := range []int64{least, -1, 0, 1, 2, greatest} {
				l := append(slices.Clip(l), api.Bind{Name: "c", N: k})
				agrees(t, of(api.OpIf, lit(k), lit(n), lit(m)), nil)
				agrees(t, of(api.OpIf, c, a, b), l)
				agrees(t, of(api.OpIf, a, b, c), l)
			}
		}
	}
}

// TestEvalOfAllSmall: every expression of up to four nodes over a few leaves.
func TestEvalOfAllSmall(t *testing.T) {
	l := binds(t, "a=0, b=-1, a=2")
	bySize := [5][]tree{1: {lit(0), lit(3), vari("a"), vari("b"), vari("z")}}
	for size := 2; size <= 4; size++ {
		for op := api.OpNeg; op <= api.OpNot; op++ {
			for _, x := range bySize[size-1] {
				bySize[size] = append(bySize[size], of(op, x))
			}
		}
		for k := 1; k <= size-2; k++ {
			for op := api.OpAdd; op <= api.OpLt; op++ {
				for _, x := range bySize[k] {
					for _, y := range bySize[size-1-k] {
						bySize[size] = append(bySize[size], of(op, x, y))
					}
				}
			}
		}
	}
	for _, x := range bySize[1] {
		for _, y := range bySize[1] {
			for _, z := range bySize[1] {
				bySize[4] = append(bySize[4], of(api.OpIf, x, y, z))
			}
		}
	}
	for _, list := range bySize {
		for _, x := range list {
			agrees(t, x, l)
			agrees(t, x, nil)
		}
	}
}

// random is an expression of just that size. Leaves and divisions are such that many traps come about, and many do not.
func random(r *rand.Rand, size int) tree {
	names := []string{"a", "b", "c", "é", "x₂", "名", "\U00010400"}
	switch kind := r.Intn(3); {
	case size == 1 && kind == 0:
		return lit(edges[r.Intn(len(edges))])
	case size == 1:
		return vari(names[r.Intn(len(names))])
	case size == 2 || kind == 0:
		return of(api.OpNeg+r.Intn(2), random(r, size-1))
	case size == 3 || kind == 1:
		k := 1 + r.Intn(size-2)
		return of(api.OpAdd+r.Intn(12), random(r, k), random(r, size-1-k))
	}
	k := 1 + r.Intn(size-3)
	l := 1 + r.Intn(size-2-k)
	return of(api.OpIf, random(r, k), random(r, l), random(r, size-1-k-l))
}

// randomBinds is a list with some names twice.
func randomBinds(r *rand.Rand) []api.Bind {
	names := []string{"a", "b", "c", "é", "x₂", "名", "\U00010400", "", "3", "A"}
	var l []api.Bind
	for range r.Intn(14) {
		l = append(l, api.Bind{Name: names[r.Intn(len(names))], N: edges[r.Intn(len(edges))]})
	}
	return l
}

func TestEvalOfRandom(t *testing.T) {
	r := rand.New(rand.NewSource(8))
	trapped, whole := 0, 0
	for size := 1; size <= api.MaxTerm; size++ {
		for range 100 {
			x, l := random(r, size), randomBinds(r)
			agrees(t, x, l)
			if _, ok := x.comes(l); ok {
				whole++
			} else {
				trapped++
			}
		}
	}
	if trapped < 1000 || whole < 1000 {
		t.Errorf("of the random expressions %d trap and %d do not", trapped, whole)
	}
}

// chained is a leaf under so many operators of one part.
func chained(op, times int, x tree) tree {
	for range times {
		x = of(op, x)
	}
	return x
}

// summed is a list of trees under one operator, leaning to the left or to the right.
func summed(op int, right bool, l ...tree) tree {
	if right {
		x := l[len(l)-1]
		for _, y := range slices.Backward(l[:len(l)-1]) {
			x = of(op, y, x)
		}
		return x
	}
	x := l[0]
	for _, y := range l[1:] {
		x = of(op, x, y)
	}
	return x
}

// count is the numbers from 1 on, as literals.
func count(many int) []tree {
	var l []tree
	for i := range many {
		l = append(l, lit(int64(i+1)))
	}
	return l
}

func TestEvalOfTheGreatest(t *testing.T) {
	l := binds(t, "a=5")
	evals(t, chained(api.OpNeg, api.MaxTerm-1, vari("a")).nodes(), l, -5)
	evals(t, chained(api.OpNot, api.MaxTerm-1, vari("a")).nodes(), l, -6)
	evals(t, chained(api.OpNeg, api.MaxTerm-2, vari("a")).nodes(), l, 5)
	for _, right := range []bool{false, true} {
		evals(t, chained(api.OpNeg, 1, summed(api.OpAdd, right, count(32)...)).nodes(), l, -528)
		traps(t, chained(api.OpNeg, 1, summed(api.OpRem, right, append(count(31), lit(0))...)).nodes(), l, map[bool]int{false: 62, true: 32}[right])
	}
	evals(t, chained(api.OpNot, 1, summed(api.OpSub, false, count(32)...)).nodes(), l, ^int64(1-527))
	evals(t, chained(api.OpNot, 1, summed(api.OpSub, true, count(32)...)).nodes(), l, ^int64(-16))
	deep := vari("a")
	for range 21 {
		deep = of(api.OpIf, lit(0), lit(1), deep)
	}
	evals(t, deep.nodes(), l, 5)
	if len(deep.nodes()) != api.MaxTerm {
		t.Errorf("the deepest choice has %d nodes", len(deep.nodes()))
	}
}

// TestEvalTraps: all parts are looked at, wherever a trap is.
func TestEvalTraps(t *testing.T) {
	l := binds(t, "a=1, z=0, z=0, y=0, y=1")
	for s, want := range map[string]int{
		"1/0": 2, "1%0": 2, "0/0": 2, "0%0": 2, "a/z": 2, "a%z": 2, "-9223372036854775808/0": 2, "a/(a-a)": 4, "a/(z*5)": 4, "a%q": 2,
		"-(1/0)": 2, "~(1/0)": 2, "1+1/0": 3, "1/0+1": 2, "1/0-1/0": 2, "0*(1/0)": 3, "1/0*0": 2, "(1%0)&0": 2, "0&1%0": 3, "1/0==1/0": 2, "1/0<<0": 2, "0<<1/0": 3,
		"1?2:1/0": 4, "0?1/0:2": 3, "1/0?2:3": 2, "z?a/z:a": 3, "a?a:a/z": 4, "1/0?1/0:1/0": 2, "1?1/0:1/0": 3, "0?2:1/0": 4,
		"(1/0)/0": 2, "0/(1/0)": 3, "1/(0/0)": 3, "1/0/1": 2, "(1/2)/(3%0)": 5, "0/1/0": 4, "1/0%0": 2, "(0/1)%(1/1-1)": 8,
		"1/y+1/z": 5, "1/z+1/y": 2, "-(z/a)/-z": 6,
	} {
		traps(t, read(t, s), l, want)
	}
}

// TestEvalTrapsInOneOnly: one expression traps in one environment, and not in another.
func TestEvalTrapsInOneOnly(t *testing.T) {
	e := read(t, "(a/b)%c")
	evals(t, e, binds(t, "a=17, b=2, c=5"), 3)
	traps(t, e, binds(t, "a=17, b=2"), 4)
	traps(t, e, binds(t, "a=17, c=5"), 2)
	traps(t, e, nil, 2)
	traps(t, e, binds(t, "a=17, b=2, c=5, b=0"), 2)
	evals(t, e, binds(t, "a=17, b=0, c=0, b=2, c=5"), 3)
}

// lists: expressions that are not sound, in each way.
func lists() map[string][]api.Node {
	a, one := api.Node{Op: api.OpVar, Name: "a"}, api.Node{Op: api.OpLit, N: 1}
	node := func(op int, kids ...int) api.Node { return api.Node{Op: op, Kids: kids} }
	l := map[string][]api.Node{
		"nil":                          nil,
		"no nodes":                     {},
		"65 nodes":                     chained(api.OpNeg, api.MaxTerm, vari("a")).nodes(),
		"66 nodes, of which one traps": of(api.OpDiv, chained(api.OpNeg, api.MaxTerm-1, vari("a")), lit(0)).nodes(),
		"many nodes":                   make([]api.Node, 1<<16),
		"a hole":                       {{Op: api.OpHole, Name: "a"}},
		"a hole in a sum":              {a, {Op: api.OpHole, Name: "a"}, node(api.OpAdd, 0, 1)},
		"variable without a name":      {{Op: api.OpVar}},
		"variable with a number":       {{Op: api.OpVar, Name: "3"}},
		"variable of 17 characters":    {{Op: api.OpVar, Name: strings.Repeat("é", api.MaxName+1)}},
		"variable with a bad byte":     {{Op: api.OpVar, Name: "a\xff"}},
		"variable with N":              {{Op: api.OpVar, Name: "a", N: 1}},
		"variable with a part":         {a, {Op: api.OpVar, Name: "a", Kids: []int{0}}},
		"literal with a name":          {{Op: api.OpLit, Name: "a"}},
		"literal with a part":          {one, node(api.OpLit, 0)},
		"operator with N":              {one, {Op: api.OpNeg, N: 1, Kids: []int{0}}},
		"operator with a name":         {one, {Op: api.OpNeg, Name: "a", Kids: []int{0}}},
		"division with N":              {one, one, {Op: api.OpDiv, N: 1, Kids: []int{0, 1}}},
		"neg without parts":            {node(api.OpNeg)},
		"neg with two parts":           {a, one, node(api.OpNeg, 0, 1)},
		"add without parts":            {node(api.OpAdd)},
		"add with one part":            {a, node(api.OpAdd, 0)},
		"add with three parts":         {a, a, a, node(api.OpAdd, 0, 1, 2)},
		"if with two parts":            {a, a, node(api.OpIf, 0, 1)},
		"if with four parts":           {a, a, a, a, node(api.OpIf, 0, 1, 2, 3)},
		"parts the wrong way round":    {a, one, node(api.OpAdd, 1, 0)},
		"one part twice":               {a, node(api.OpAdd, 0, 0)},
		"itself as a part":             {node(api.OpNeg, 0)},
		"a part behind it":             {node(api.OpNeg, 1), a},
		"part -1":                      {a, node(api.OpNeg, -1)},
		"a part far below":             {a, node(api.OpNeg, math.MinInt)},
		"a part far above":             {a, node(api.OpNeg, math.MaxInt)},
		"two wholes":                   {a, one},
		"a node that is no part":       {a, one, node(api.OpNeg, 1)},
		"a part of two":                {a, node(api.OpNeg, 0), node(api.OpNot, 0)},
		"a trap, and then two wholes":  {one, {Op: api.OpLit}, node(api.OpDiv, 0, 1), a},
		"a trap, and then a hole":      {one, {Op: api.OpLit}, node(api.OpDiv, 0, 1), {Op: api.OpHole, Name: "a"}, node(api.OpAdd, 2, 3)},
		"a trap, and then N":           {one, {Op: api.OpLit}, node(api.OpDiv, 0, 1), {Op: api.OpNeg, N: 1, Kids: []int{2}}},
	}
	for _, op := range []int{math.MinInt, -1, 0, 18, 19, 20, 100, math.MaxInt, 1<<32 + api.OpNeg} {
		l[fmt.Sprint("operator ", op)] = []api.Node{{Op: op}}
		l[fmt.Sprint("operator ", op, " with one part")] = []api.Node{a, node(op, 0)}
		l[fmt.Sprint("operator ", op, " with two parts")] = []api.Node{a, one, node(op, 0, 1)}
		l[fmt.Sprint("operator ", op, " as a part")] = []api.Node{{Op: op}, node(api.OpNeg, 0)}
	}
	return l
}

// odd: an environment that gives a number also to what is no name.
var odd = []api.Bind{{Name: "a", N: 1}, {Name: "", N: 2}, {Name: "3", N: 3}, {Name: "a\xff", N: 4}, {Name: "ééééééééééééééééé", N: 5}}

func TestEvalNotSound(t *testing.T) {
	for what, e := range lists() {
		for _, l := range [][]api.Bind{nil, odd} {
			if n, bad := eval.Eval(e, l); n != 0 || bad != api.ErrForm {
				t.Errorf("Eval of a list that is not sound (%s): %d, %d", what, n, bad)
			}
		}
	}
}

// TestEvalOfEmptyKids: kids that are empty and not nil are none.
func TestEvalOfEmptyKids(t *testing.T) {
	evals(t, []api.Node{{Op: api.OpLit, N: 3, Kids: []int{}}}, nil, 3)
	evals(t, []api.Node{{Op: api.OpVar, Name: "a", Kids: []int{}}}, odd, 1)
}

// P8.2

// Types that keep to the interface, and are none of api's.
type (
	twin   api.Lit             // alike, but another type
	inside struct{ api.Lit }   // by what is embedded
	around struct{ termed }    // by an interface that is embedded
	termed interface{ Term() } // api's, by another name
	row    []int               // values that cannot be compared
	angry  struct{ A api.Var } // its method panics
)

func (twin) Term()  {}
func (row) Term()   {}
func (angry) Term() { panic("Term is called") }

// strangers: values of the interface that are of none of the five kinds.
func strangers() map[string]api.Term {
	a, one := api.Var{Name: "a"}, api.Lit{N: 1}
	ring := &api.Un{Op: api.OpNeg}
	ring.A = ring
	return map[string]api.Term{
		"nil":                     nil,
		"pointer to Lit":          &one,
		"pointer to Var":          &a,
		"pointer to Un":           &api.Un{Op: api.OpNeg, A: a},
		"pointer to Bin":          &api.Bin{Op: api.OpAdd, A: a, B: a},
		"pointer to If":           &api.If{C: a, A: a, B: a},
		"pointer round to itself": ring,
		"nil pointer to Lit":      (*api.Lit)(nil),
		"nil pointer to Var":      (*api.Var)(nil),
		"nil pointer to Un":       (*api.Un)(nil),
		"nil pointer to Bin":      (*api.Bin)(nil),
		"nil pointer to If":       (*api.If)(nil),
		"twin":                    twin{N: 1},
		"inside":                  inside{one},
		"around a Lit":            around{one},
		"around nil":              around{},
		"row":                     row{1, 2},
		"angry":                   angry{a},
	}
}

// terms: terms that are not sound.
func terms() map[string]api.Term {
	var a, zero api.Term = api.Var{Name: "a"}, api.Lit{}
	trap := api.Bin{Op: api.OpDiv, A: a, B: zero}
	l := map[string]api.Term{
		"65 nodes in a row":    chained(api.OpNeg, api.MaxTerm, vari("a")).term(),
		"66 nodes and a trap":  api.Bin{Op: api.OpAdd, A: trap, B: chained(api.OpNeg, 61, vari("a")).term()},
		"65536 nodes in a row": repeated(1<<16, a, func(x api.Term) api.Term { return api.Un{Op: api.OpNeg, A: x} }),
		"a tree of 2^60 nodes": repeated(60, a, func(x api.Term) api.Term { return api.Bin{Op: api.OpAdd, A: x, B: x} }),
		"3^40 nodes":           repeated(40, trap, func(x api.Term) api.Term { return api.If{C: x, A: x, B: x} }),
	}
	for what, x := range strangers() {
		l[what] = x
		l[what+" in an Un"] = api.Un{Op: api.OpNeg, A: x}
		l[what+" in a Bin's A"] = api.Bin{Op: api.OpAdd, A: x, B: a}
		l[what+" in a Bin's B"] = api.Bin{Op: api.OpAdd, A: a, B: x}
		l[what+" in an If's C"] = api.If{C: x, A: a, B: a}
		l[what+" in an If's A"] = api.If{C: a, A: x, B: a}
		l[what+" in an If's B"] = api.If{C: a, A: a, B: x}
		l[what+" behind a trap"] = api.Bin{Op: api.OpAdd, A: trap, B: x}
		l[what+" ahead of a trap"] = api.Bin{Op: api.OpAdd, A: x, B: trap}
	}
	for _, name := range []string{"", "3", "₂x", "a b", "a\xff", "\ufffd", strings.Repeat("é", api.MaxName+1)} {
		l[fmt.Sprintf("name %q", name)] = api.Var{Name: name}
		l[fmt.Sprintf("name %q inside", name)] = api.Bin{Op: api.OpAdd, A: trap, B: api.Un{Op: api.OpNot, A: api.Var{Name: name}}}
	}
	for op := -1; op <= 20; op++ {
		if op != api.OpNeg && op != api.OpNot {
			l[fmt.Sprint("Un of ", op)] = api.Un{Op: op, A: a}
			l[fmt.Sprint("Un of ", op, " of a trap")] = api.Un{Op: op, A: trap}
		}
		if op < api.OpAdd || op > api.OpLt {
			l[fmt.Sprint("Bin of ", op)] = api.Bin{Op: op, A: a, B: a}
			l[fmt.Sprint("Bin of ", op, " of a trap")] = api.Bin{Op: op, A: trap, B: a}
		}
	}
	return l
}

// repeated is what f makes of t, over and over: a part stands in as many places as f puts it.
func repeated(times int, t api.Term, f func(api.Term) api.Term) api.Term {
	for range times {
		t = f(t)
	}
	return t
}

func TestTermNotSound(t *testing.T) {
	for what, x := range terms() {
		for _, l := range [][]api.Bind{nil, odd} {
			if n, bad := eval.Term(x, l); n != 0 || bad != api.ErrForm {
				t.Errorf("Term of what is not sound (%s): %d, %d", what, n, bad)
			}
		}
	}
}

// comes holds what Term answers against a number, or an error.
func comes(t *testing.T, x api.Term, l []api.Bind, want int64, wrong api.Errno) {
	t.Helper()
	if n, bad := eval.Term(x, l); n != want || bad != wrong {
		t.Errorf("Term(%v, %v) = %d, %d, want %d, %d", x, l, n, bad, want, wrong)
	}
}

func TestTerm(t *testing.T) {
	l := binds(t, "a=7, b=-2, z=0")
	var a, b, z api.Term = api.Var{Name: "a"}, api.Var{Name: "b"}, api.Var{Name: "z"}
	comes(t, api.Lit{N: least}, l, least, api.OK)
	comes(t, api.Lit{}, nil, 0, api.OK)
	comes(t, a, l, 7, api.OK)
	comes(t, a, nil, 0, api.OK)
	comes(t, api.Un{Op: api.OpNeg, A: a}, l, -7, api.OK)
	comes(t, api.Un{Op: api.OpNot, A: a}, l, -8, api.OK)
	comes(t, api.Bin{Op: api.OpSub, A: a, B: b}, l, 9, api.OK)
	comes(t, api.Bin{Op: api.OpSub, A: b, B: a}, l, -9, api.OK)
	comes(t, api.Bin{Op: api.OpRem, A: a, B: b}, l, 1, api.OK)
	comes(t, api.Bin{Op: api.OpDiv, A: a, B: z}, l, 0, api.ErrTrap)
	comes(t, api.If{C: a, A: b, B: z}, l, -2, api.OK)
	comes(t, api.If{C: z, A: b, B: a}, l, 7, api.OK)
	comes(t, api.If{C: a, A: b, B: api.Bin{Op: api.OpRem, A: a, B: z}}, l, 0, api.ErrTrap)
	comes(t, api.Bin{Op: api.OpMul, A: z, B: api.Bin{Op: api.OpDiv, A: a, B: z}}, l, 0, api.ErrTrap)
}

// TestTermOfPartsTwice: a part that stands in several places counts in each.
func TestTermOfPartsTwice(t *testing.T) {
	l := binds(t, "a=3")
	var a api.Term = api.Var{Name: "a"}
	part := api.Bin{Op: api.OpMul, A: a, B: api.Lit{N: 5}}
	comes(t, api.Bin{Op: api.OpSub, A: part, B: part}, l, 0, api.OK)
	comes(t, api.Bin{Op: api.OpMul, A: part, B: part}, l, 225, api.OK)
	comes(t, api.If{C: part, A: api.Un{Op: api.OpNeg, A: part}, B: part}, l, -15, api.OK)
	comes(t, api.If{C: part, A: part, B: api.Bin{Op: api.OpAdd, A: part, B: part}}, l, 15, api.OK)
	trap := api.Bin{Op: api.OpRem, A: part, B: api.Lit{}}
	comes(t, api.Bin{Op: api.OpSub, A: trap, B: trap}, l, 0, api.ErrTrap)
	comes(t, api.If{C: part, A: part, B: trap}, l, 0, api.ErrTrap)
	double := func(x api.Term) api.Term { return api.Bin{Op: api.OpAdd, A: x, B: x} }
	comes(t, repeated(5, a, double), l, 96, api.OK)
	comes(t, api.Un{Op: api.OpNeg, A: repeated(5, a, double)}, l, -96, api.OK)
	comes(t, repeated(6, a, double), l, 0, api.ErrForm)
	triple := func(x api.Term) api.Term { return api.If{C: x, A: x, B: x} }
	comes(t, repeated(3, a, triple), l, 3, api.OK)
	comes(t, repeated(4, a, triple), l, 0, api.ErrForm)
}

// TestTermIsEvalOfOpen: of whatever term, sound or not, Term is as Eval of the expression that it stands for.
func TestTermIsEvalOfOpen(t *testing.T) {
	all := terms()
	r := rand.New(rand.NewSource(82))
	for i := range 500 {
		all[fmt.Sprint("random ", i)] = random(r, 1+r.Intn(api.MaxTerm)).term()
	}
	for what, x := range all {
		e, _ := box.Open(x)
		l := randomBinds(r)
		want, wrong := eval.Eval(e, l)
		if n, bad := eval.Term(x, l); n != want || bad != wrong {
			t.Errorf("Term (%s) = %d, %d, and Eval %d, %d", what, n, bad, want, wrong)
		}
	}
}

// P8.3

func TestTrapNone(t *testing.T) {
	l := binds(t, "a=1, z=0")
	for _, s := range []string{"1", "0", "a", "z", "-z", "1/2", "0/1", "0%a", "z/a", "a/(z+1)", "z?z:z", "z*z", "z<<z", "1/a%a/a"} {
		if at, bad := eval.Trap(read(t, s), l); at != 0 || bad != api.ErrNone {
			t.Errorf("Trap(%s) = %d, %d", s, at, bad)
		}
	}
}

func TestTrapNotSound(t *testing.T) {
	for what, e := range lists() {
		for _, l := range [][]api.Bind{nil, odd} {
			if at, bad := eval.Trap(e, l); at != 0 || bad != api.ErrForm {
				t.Errorf("Trap of a list that is not sound (%s): %d, %d", what, at, bad)
			}
		}
	}
}

// TestTrapOfSeveral: three divisions under a choice, or one under another, of which any trap, in every order of their places.
func TestTrapOfSeveral(t *testing.T) {
	l := binds(t, "p=0, q=0, r=0, a=1")
	for mask := range 8 {
		var d []tree
		for i, name := range []string{"p", "q", "r"} {
			if mask>>i&1 == 0 {
				name = "a"
			}
			d = append(d, of(api.OpDiv+i%2, chained(api.OpNeg, i, lit(9)), vari(name)))
		}
		for _, order := range [][]int{{0, 1, 2}, {0, 2, 1}, {1, 0, 2}, {1, 2, 0}, {2, 0, 1}, {2, 1, 0}} {
			x, y, z := d[order[0]], d[order[1]], d[order[2]]
			agrees(t, of(api.OpIf, x, y, z), l)
			agrees(t, of(api.OpAdd, x, of(api.OpMul, y, z)), l)
			agrees(t, of(api.OpAdd, of(api.OpMul, x, y), z), l)
			agrees(t, of(api.OpDiv, x, of(api.OpRem, y, z)), l)
			agrees(t, of(api.OpRem, of(api.OpDiv, x, y), z), l)
			agrees(t, of(api.OpDiv, of(api.OpIf, x, y, z), lit(0)), l)
		}
	}
}

// TestTrapIsTheFirst: of a node that Trap names, the expression of its own traps, those of its parts do not, and no node ahead of it traps.
func TestTrapIsTheFirst(t *testing.T) {
	r := rand.New(rand.NewSource(83))
	for range 2000 {
		x, l := random(r, 3+r.Intn(40)), randomBinds(r)
		at, bad := eval.Trap(x.nodes(), l)
		if bad != api.OK {
			continue
		}
		for i, y := range x.all()[:at+1] {
			if _, got := eval.Eval(y.nodes(), l); (got == api.ErrTrap) != (i == at) {
				t.Fatalf("Trap(%v, %v) = %d, and Eval of %d is %d", x.nodes(), l, at, i, got)
			}
		}
		if op := x.nodes()[at].Op; op != api.OpDiv && op != api.OpRem {
			t.Fatalf("Trap(%v, %v) = %d, which is an operator %d", x.nodes(), l, at, op)
		}
	}
}

// Through the layers

// TestAllShapesComeToTheSame: an expression, what is read of its text, and what is opened of its term.
func TestAllShapesComeToTheSame(t *testing.T) {
	r := rand.New(rand.NewSource(84))
	for range 1500 {
		x, l := random(r, 1+r.Intn(api.MaxTerm)), randomBinds(r)
		want, wrong := eval.Eval(x.nodes(), l)
		place, none := eval.Trap(x.nodes(), l)
		s, bad := show.Show(x.nodes())
		if bad != api.OK {
			t.Fatalf("Show(%v): %d", x.nodes(), bad)
		}
		opened, bad := box.Open(boxed(t, x.nodes()))
		if bad != api.OK {
			t.Fatalf("Open of Box of %s: %d", s, bad)
		}
		for _, e := range [][]api.Node{read(t, s), opened} {
			if n, bad := eval.Eval(e, l); n != want || bad != wrong {
				t.Fatalf("Eval(%s, %v) = %d, %d, want %d, %d", s, l, n, bad, want, wrong)
			}
			if n, bad := eval.Term(boxed(t, e), l); n != want || bad != wrong {
				t.Fatalf("Term of %s, %v = %d, %d, want %d, %d", s, l, n, bad, want, wrong)
			}
			if at, bad := eval.Trap(e, l); at != place || bad != none {
				t.Fatalf("Trap(%s, %v) = %d, %d, want %d, %d", s, l, at, bad, place, none)
			}
		}
	}
}

// The rules that hold for all calls

// roomy is a list with spare room behind it and behind its kids, which holds something.
func roomy(e []api.Node) []api.Node {
	out := make([]api.Node, 0, len(e)+3)
	for _, n := range e {
		n.Kids = append(append(make([]int, 0, len(n.Kids)+3), n.Kids...), -7, -8, -9)[:len(n.Kids)]
		out = append(out, n)
	}
	return append(out, api.Node{Op: 77}, api.Node{Op: 78}, api.Node{Op: 79})[:len(e)]
}

// roomyBinds is the same of an environment.
func roomyBinds(l []api.Bind) []api.Bind {
	out := append(make([]api.Bind, 0, len(l)+3), l...)
	return append(out, api.Bind{Name: "a", N: 77}, api.Bind{Name: "b", N: 78}, api.Bind{N: 79})[:len(l)]
}

// picture tells all of two lists, their spare room too.
func picture(e []api.Node, l []api.Bind) string {
	var s strings.Builder
	for _, n := range e[:cap(e)] {
		fmt.Fprintf(&s, "%d %d %q %v; ", n.Op, n.N, n.Name, n.Kids[:cap(n.Kids)])
	}
	fmt.Fprintf(&s, "%d %d %v", len(e), len(l), l[:cap(l)])
	return s.String()
}

// answer is what all calls say of an expression.
type answer struct {
	n, m       int64
	at         int
	bad, wrong api.Errno
	none       api.Errno
}

func ask(e []api.Node, x api.Term, l []api.Bind) (a answer) {
	a.n, a.bad = eval.Eval(e, l)
	a.m, a.wrong = eval.Term(x, l)
	a.at, a.none = eval.Trap(e, l)
	return a
}

// TestHandedInStays: nothing that is handed in is changed, its spare room neither, nor does an answer hang on it; the same is answered again.
func TestHandedInStays(t *testing.T) {
	r := rand.New(rand.NewSource(85))
	hold := func(e []api.Node, x api.Term, list []api.Bind) {
		want := ask(e, x, list)
		e, list = roomy(e), roomyBinds(list)
		was := picture(e, list)
		for range 3 {
			if got := ask(e, x, list); got != want {
				t.Fatalf("of %s: %v, at first %v", was, got, want)
			}
		}
		if is := picture(e, list); is != was {
			t.Fatalf("%s was %s", is, was)
		}
	}
	for range 500 {
		x := random(r, 1+r.Intn(api.MaxTerm))
		hold(x.nodes(), x.term(), randomBinds(r))
	}
	for _, e := range lists() {
		hold(e, nil, odd)
	}
}

// TestNothingIsKept: what a call is told does not come back in another one.
func TestNothingIsKept(t *testing.T) {
	e, l := read(t, "8/a"), binds(t, "a=2")
	x := boxed(t, e)
	evals(t, e, l, 4)
	l[0].N = 0
	traps(t, e, l, 2)
	e[0].N, l[0].N = 9, 3
	evals(t, e, l, 3)
	comes(t, x, l, 2, api.OK)
	evals(t, read(t, "a"), nil, 0)
}

// TestSideBySide: calls at one time do not touch each other.
func TestSideBySide(t *testing.T) {
	r := rand.New(rand.NewSource(86))
	var all []func() answer
	var first []answer
	for range 50 {
		x, l := random(r, 1+r.Intn(api.MaxTerm)), randomBinds(r)
		e, y := x.nodes(), x.term()
		all = append(all, func() answer { return ask(e, y, l) })
		first = append(first, ask(e, y, l))
	}
	done := make(chan string)
	for range 8 {
		go func() {
			wrong := ""
			for range 20 {
				for i, call := range all {
					if got := call(); got != first[i] {
						wrong = fmt.Sprint(got, " at first ", first[i])
					}
				}
			}
			done <- wrong
		}()
	}
	for range 8 {
		if wrong := <-done; wrong != "" {
			t.Error("a call answers otherwise beside others: ", wrong)
		}
	}
}

// The chapter's examples.

func TestExamples(t *testing.T) {
	evals(t, read(t, "a + b * 2"), binds(t, "a=1, b=3"), 7)
	evals(t, read(t, "a"), nil, 0)
	traps(t, read(t, "1 / a"), nil, 2)
	traps(t, read(t, "1 ? 2 : 1 / 0"), nil, 4)
	traps(t, read(t, "0 * (1 / a)"), nil, 3)
	traps(t, read(t, "0 * (1 / 0)"), nil, 3)
	traps(t, read(t, "(1 / 0) - (1 / 0)"), nil, 2)
	evals(t, read(t, "1 / 2"), nil, 0)
}
