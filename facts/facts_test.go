package facts_test

import (
	"math"
	"math/rand"
	"slices"
	"strings"
	"testing"

	"sorrel/api"
	"sorrel/arith"
	"sorrel/env"
	"sorrel/eval"
	"sorrel/expr"
	"sorrel/facts"
	"sorrel/parse"
)

const (
	least    = math.MinInt64
	greatest = math.MaxInt64
)

// edges are numbers at both ends and in between.
var edges = []int64{least, least + 1, -1 << 32, -65, -64, -63, -7, -2, -1, 0, 1, 2, 7, 63, 64, 65, 1 << 32, 1 << 62, greatest - 1, greatest}

func lit(n int64) api.Node            { return api.Node{Op: api.OpLit, N: n} }
func vari(s string) api.Node          { return api.Node{Op: api.OpVar, Name: s} }
func do(op int, kids ...int) api.Node { return api.Node{Op: op, Kids: kids} }

// The facts that there are beside those of numbers.
var (
	nothing = api.Fact{}
	sure    = api.Fact{Total: true}
)

// number is the fact of a constant.
func number(n int64) api.Fact { return api.Fact{Total: true, Const: true, N: n} }

// read is the expression of a text of layer 4.
func read(t *testing.T, s string) []api.Node {
	t.Helper()
	e, at, bad := parse.Parse(s)
	if bad != api.OK {
		t.Fatalf("Parse(%q): %d at %d", s, bad, at)
	}
	return e
}

// made is an expression of an operator and parts that fit.
func made(t *testing.T, op int, parts ...[]api.Node) []api.Node {
	t.Helper()
	e, bad := expr.Make(op, 0, "", parts...)
	if bad != api.OK {
		t.Fatalf("Make(%d, %v): %d", op, parts, bad)
	}
	return e
}

// knows holds Of against what has to be known.
func knows(t *testing.T, e []api.Node, want api.Fact) {
	t.Helper()
	if f, bad := facts.Of(e); f != want || bad != api.OK {
		t.Fatalf("Of(%v) = %v, %d, want %v", e, f, bad, want)
	}
}

// P13.1

func TestOfExamples(t *testing.T) {
	for s, want := range map[string]api.Fact{
		"2 * 3": {Total: true, Const: true, N: 6}, "a / 2": {Total: true}, "a / b": {}, "1 / 0": {}, "1 / (2 - 2)": {}, "a / (1 - 2)": {Total: true},
	} {
		knows(t, read(t, s), want)
	}
}

func TestOfLeaves(t *testing.T) {
	for _, n := range edges {
		knows(t, []api.Node{lit(n)}, number(n))
	}
	for _, name := range []string{"a", "A", "_", "é", "x₂", "名", strings.Repeat("名", api.MaxName)} {
		knows(t, []api.Node{vari(name)}, sure)
	}
}

// TestOfOperators: every operator, with each kind of part in each place: a number, what never traps, what may trap, and what traps for sure.
func TestOfOperators(t *testing.T) {
	kinds := []struct {
		s string
		f api.Fact
	}{
		{"7", number(7)}, {"0", number(0)}, {"1 - 9", number(-8)}, {"a", sure}, {"a / 3", sure}, {"b % (1 - 2)", sure}, {"a / b", nothing}, {"5 % a", nothing}, {"1 / 0", nothing}, {"6 % (1 - 1)", nothing},
	}
	many := 0
	for op := api.OpNeg; op <= api.OpIf; op++ {
		rows := 1
		for range arities[op] {
			rows *= len(kinds)
		}
		for row := range rows {
			var parts [][]api.Node
			var numbers []int64
			all, last := true, nothing
			for at := range arities[op] {
				kind := kinds[row%len(kinds)]
				row /= len(kinds)
				parts = append(parts, read(t, kind.s))
				all = all && kind.f.Total
				if kind.f.Const {
					numbers = append(numbers, kind.f.N)
				}
				if at == 1 {
					last = kind.f
				}
			}
			want := api.Fact{Total: all && (!divides(op) || last.Const && last.N != 0)}
			if n, bad := arith.Apply(op, numbers...); len(numbers) == arities[op] && bad == api.OK {
				want.Const, want.N = true, n
			}
			knows(t, made(t, op, parts...), want)
			many++
		}
	}
	if many != 2*10+12*100+1000 {
		t.Errorf("%d expressions", many)
	}
}

// TestOfNumbers: every operator of numbers at both ends and in between.
func TestOfNumbers(t *testing.T) {
	for op := api.OpNeg; op <= api.OpIf; op++ {
		for _, a := range edges {
			for _, b := range edges {
				numbers := []int64{a, b, 5}[:arities[op]]
				var parts [][]api.Node
				for _, n := range numbers {
					parts = append(parts, []api.Node{lit(n)})
				}
				e := made(t, op, parts...)
				n, bad := arith.Apply(op, numbers...)
				if bad != api.OK {
					knows(t, e, nothing)
					continue
				}
				knows(t, e, number(n))
				// A second operator takes up what the first one comes to.
				knows(t, made(t, api.OpNot, e), number(^n))
				knows(t, made(t, api.OpSub, []api.Node{lit(1)}, e), number(1-n))
			}
		}
	}
}

// TestOfNumbersWrittenOut: numbers of expressions that are not asked of layer 6.
func TestOfNumbersWrittenOut(t *testing.T) {
	for s, want := range map[string]int64{
		"9223372036854775807 + 1": least, "-9223372036854775808 - 1": greatest, "-(-9223372036854775808)": least, "-9223372036854775808 / -1": least, "-9223372036854775808 % -1": 0,
		"-7 / 2": -3, "-7 % 2": -1, "7 % -2": 1, "1 << 64": 1, "1 << -1": least, "-8 >> 1": -4, "~0": -1, "6 & 3": 2, "6 | 3": 7, "6 ^ 3": 5,
		"4 == 4": 1, "4 == 5": 0, "4 < 5": 1, "5 < 4": 0, "0 ? 5 : 7": 7, "-2 ? 5 : 7": 5, "(1 + 2) * (3 + 4) - 10 / (7 - 2)": 19, "0 * 5": 0, "5 - 5": 0, "0 / 3": 0, "0 % -3": 0,
	} {
		knows(t, read(t, s), number(want))
	}
}

// TestOfDivisions: by a constant that is 0, by one that is not, and by what is no constant.
func TestOfDivisions(t *testing.T) {
	for s, want := range map[string]api.Fact{
		"a / 1": sure, "a / -1": sure, "a / 9223372036854775807": sure, "a / -9223372036854775808": sure, "a / 0": nothing, "a / (3 - 3)": nothing, "a / (3 - 2)": sure, "a / -(0)": nothing, "a / ~0": sure, "a / ~-1": nothing,
		"a / a": nothing, "1 / a": nothing, "0 / a": nothing, "a / -a": nothing, "a / (a * 0 + 1)": nothing, "a / (a | 1)": nothing, "a / (1 ? 2 : a)": nothing, "a / (0 ? 0 : 2)": sure, "a / (0 ? 2 : 0)": nothing,
		"1 / 0": nothing, "0 / 0": nothing, "0 / 1": number(0), "a / (6 / 3)": sure, "a / (6 / 0)": nothing, "a / (1 / 3)": nothing, "a / (6 % 4)": sure, "a / (6 % 3)": nothing, "a / (6 / (1 - 1))": nothing,
		"1 / (4294967296 * 4294967296)": nothing, "a / (4294967296 * 4294967297)": sure, "a / (1 << 63)": sure, "a / (2 << 63)": nothing, "a / (5 < 4)": nothing, "a / (4 < 5)": sure,
		"(a / b) / 2": nothing, "(a / 2) / 2": sure, "(a / 2) / b": nothing, "(1 / 0) / 2": nothing, "8 / 2 / 2": number(2), "a / 2 / (1 - 1)": nothing,
	} {
		knows(t, read(t, s), want)
		knows(t, read(t, strings.Replace(s, "a / ", "a % ", 1)), want)
	}
	for _, n := range edges {
		for op := api.OpDiv; op <= api.OpRem; op++ {
			want := sure
			if n == 0 {
				want = nothing
			}
			knows(t, made(t, op, []api.Node{vari("a")}, []api.Node{lit(n)}), want)
			knows(t, made(t, op, []api.Node{lit(n)}, []api.Node{vari("a")}), nothing)
		}
	}
}

// TestOfTraps: nothing is known of what has a part without variables that traps, whatever stands around it.
func TestOfTraps(t *testing.T) {
	for _, trap := range []string{"1 / 0", "1 % 0", "0 / (2 - 2)", "(7 % 0) / 3"} {
		for _, s := range []string{"-(#)", "~(#)", "(#) + 1", "1 - (#)", "0 * (#)", "(#) * 0", "(#) & 0", "0 << (#)", "(#) == (#)", "(#) < a", "1 ? 2 : (#)", "0 ? (#) : 2", "(#) ? 2 : 2", "0 / (#)", "(#) / 1", "a / (#)", "(#) - (#)", "-(-(1 + (#)))", "5 / (1 + 0 * (#))"} {
			knows(t, read(t, strings.ReplaceAll(s, "#", trap)), nothing)
		}
	}
}

// TestOfWhatIsNoConstant: a variable anywhere keeps an expression from being one, even where the answer does not hang on it, and N is 0 then.
func TestOfWhatIsNoConstant(t *testing.T) {
	for _, s := range []string{"0 * a", "a * 0", "a - a", "a ^ a", "a & 0", "a == a", "1 ? 2 : a", "0 ? a : 3", "a ? 1 : 1", "7 + 0 * a", "5 - -(a)", "(2 * 3) + (a << 2)", "a ? 3 * 3 : 4", "3 * 3 ? a : 4", "a % 1", "9 / 3 * a"} {
		knows(t, read(t, s), sure)
	}
	for _, s := range []string{"7 * (a / b)", "2 + 2 / a", "(1 + 1) * (1 / 0)", "9 - 5 % (a - a)"} {
		knows(t, read(t, s), nothing)
	}
}

// TestOfWhatIsGreat: expressions of up to MaxTerm nodes.
func TestOfWhatIsGreat(t *testing.T) {
	e, f, g := []api.Node{lit(1)}, []api.Node{vari("a")}, read(t, "a/b")
	n := int64(1)
	for len(e) < api.MaxTerm {
		e, f, n = append(e, do(api.OpNeg, len(e)-1)), append(f, do(api.OpNeg, len(f)-1)), -n
		knows(t, e, number(n))
		knows(t, f, sure)
	}
	for len(g) < api.MaxTerm {
		g = append(g, do(api.OpNot, len(g)-1))
		knows(t, g, nothing)
	}
	sum := []api.Node{lit(3)}
	for len(sum)+2 <= api.MaxTerm {
		sum = made(t, api.OpMul, sum, []api.Node{lit(3)})
	}
	want := int64(1)
	for range (len(sum) + 1) / 2 {
		want *= 3
	}
	knows(t, sum, number(want))
	knows(t, made(t, api.OpNeg, sum), number(-want))
}

func TestOfByChance(t *testing.T) {
	r := rand.New(rand.NewSource(1301))
	many := map[api.Fact]int{}
	wide := slices.Concat(leaves, []api.Node{lit(least), lit(greatest), lit(7), vari("c")})
	for range 60000 {
		e := chanceExpr(r, wide, 1+r.Intn(4))
		want := factOf(e)
		knows(t, e, want)
		want.N = 0
		many[want]++
	}
	for _, f := range []api.Fact{nothing, sure, {Total: true, Const: true}} {
		if many[f] < 2000 {
			t.Errorf("%v is known of %d expressions alone", f, many[f])
		}
	}
	if len(many) != 3 {
		t.Errorf("%v", many)
	}
}

// TestOfHoldsInEveryEnvironment: what follows of P13.1.
func TestOfHoldsInEveryEnvironment(t *testing.T) {
	r := rand.New(rand.NewSource(1302))
	for range 20000 {
		e := chanceExpr(r, leaves, 4)
		f, bad := facts.Of(e)
		if bad != api.OK || f.Const && !f.Total || !f.Const && f.N != 0 {
			t.Fatalf("Of(%v) = %v, %d", e, f, bad)
		}
		for range 5 {
			names := []api.Bind{{Name: "a", N: edges[r.Intn(len(edges))]}, {Name: "b", N: int64(r.Intn(5) - 2)}}
			n, bad := eval.Eval(e, names)
			if f.Total && bad != api.OK || f.Const && n != f.N {
				s, _ := env.Text(names)
				t.Fatalf("Of(%v) = %v, though it comes to %d, %d where %s", e, f, n, bad, s)
			}
		}
	}
}

// faults are lists that are not sound.
func faults() map[string][]api.Node {
	a, one := vari("a"), lit(1)
	return map[string][]api.Node{
		"nil":                      nil,
		"no nodes":                 {},
		"op 0":                     {{}},
		"op -1":                    {{Op: -1}},
		"an operator far above":    {{Op: math.MaxInt}},
		"an operator far below":    {{Op: math.MinInt}},
		"a hole":                   {{Op: api.OpHole, Name: "a"}},
		"a pattern":                {{Op: api.OpHole, Name: "a"}, one, do(api.OpAdd, 0, 1)},
		"a variable with N":        {{Op: api.OpVar, Name: "a", N: 1}},
		"a variable without name":  {vari("")},
		"a literal with a name":    {{Op: api.OpLit, N: 1, Name: "a"}},
		"a name that is none":      {vari("3"), do(api.OpNeg, 0)},
		"a name with a bad byte":   {vari("a\xff")},
		"a name that is too long":  {vari(strings.Repeat("a", api.MaxName+1))},
		"an operator with N":       {a, {Op: api.OpNeg, N: 1, Kids: []int{0}}},
		"an operator with a name":  {a, {Op: api.OpNeg, Name: "a", Kids: []int{0}}},
		"no parts":                 {do(api.OpDiv)},
		"too few parts":            {a, do(api.OpDiv, 0)},
		"too many parts":           {a, one, do(api.OpNeg, 0, 1)},
		"a literal with a part":    {a, {Op: api.OpLit, N: 1, Kids: []int{0}}},
		"parts about":              {one, a, do(api.OpAdd, 1, 0)},
		"a part twice":             {a, do(api.OpAdd, 0, 0)},
		"a part of two":            {a, one, do(api.OpAdd, 0, 1), do(api.OpDiv, 2, 1)},
		"itself as a part":         {do(api.OpNeg, 0)},
		"a part behind":            {do(api.OpNeg, 1), one},
		"part -1":                  {a, do(api.OpNeg, -1)},
		"a part far above":         {a, do(api.OpNeg, math.MaxInt)},
		"a part far below":         {a, do(api.OpNeg, math.MinInt)},
		"two wholes":               {a, one},
		"two literals":             {one, lit(2)},
		"a node that is no part":   {one, a, do(api.OpNeg, 1)},
		"a division without rest":  {one, one, do(api.OpDiv, 0, 1), one},
		"one node more than fits":  slices.Repeat([]api.Node{one}, api.MaxTerm+1),
		"far more nodes than fit":  slices.Repeat([]api.Node{one}, 1<<16),
		"a literal and a bad node": {one, {Op: 99, Kids: []int{0}}},
	}
}

func TestOfWhatIsNotSound(t *testing.T) {
	long := []api.Node{lit(1)}
	for len(long) <= api.MaxTerm {
		knows(t, long, factOf(long))
		long = append(long, do(api.OpNot, len(long)-1))
	}
	all := faults()
	all["MaxTerm+1 nodes"] = long
	for what, e := range all {
		if f, bad := facts.Of(e); f != nothing || bad != api.ErrForm {
			t.Errorf("Of, %s: %v, %d", what, f, bad)
		}
	}
}
