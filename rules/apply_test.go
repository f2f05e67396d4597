package rules_test

import (
	"math"
	"math/rand"
	"slices"
	"strings"
	"testing"

	"sorrel/api"
	"sorrel/eval"
	"sorrel/expr"
	"sorrel/facts"
	"sorrel/rules"
)

// P17.4

// applies holds Apply, there and back, against the second reckoning; it answers what has to be answered there.
func applies(t *testing.T, r row, parts ...[]api.Node) (from, to []api.Node, bad api.Errno) {
	t.Helper()
	for _, back := range []bool{true, false} {
		from, to, bad = r.applied(t, back, parts)
		a, b, is := rules.Apply(r.number, back, parts)
		if text(a, b) != text(from, to) || is != bad {
			t.Fatalf("Apply(%s, %v) of %s: %s, %d, want %s, %d", r.name, back, text(parts...), text(a, b), is, text(from, to), bad)
		}
	}
	return from, to, bad
}

// appliesNot holds that Apply answers an error, there and back.
func appliesNot(t *testing.T, what string, rule int, want api.Errno, parts ...[]api.Node) {
	t.Helper()
	for _, back := range []bool{false, true} {
		if a, b, bad := rules.Apply(rule, back, parts); len(a) != 0 || len(b) != 0 || bad != want {
			t.Errorf("Apply(%d, %v), %s: %s, %d, want %d", rule, back, what, text(a, b), bad, want)
		}
	}
}

func TestApplyExamples(t *testing.T) {
	for _, c := range []struct {
		rule     int
		back     bool
		parts    string
		from, to string
	}{
		{12, false, "x;1;y", "x * (1 + y)", "x * 1 + x * y"},
		{12, true, "x;1;y", "x * 1 + x * y", "x * (1 + y)"},
		{6, true, "x", "0", "x * 0"},
		{6, false, "x", "x * 0", "0"},
		{0, false, "x;2", "x + 2", "2 + x"},
		{1, true, "x;y;z", "x + (y + z)", "(x + y) + z"},
		{10, false, "5", "-(5)", "5 * -1"},
		{16, false, "x;1+2", "x << 1+2", "x * (1 << 1+2)"},
		{34, false, "x/y;-1", "x/y / -1 * -1 + x/y % -1", "x/y"},
		{38, false, "2;x/y;z", "2 ? x/y : z", "x/y"},
		{39, true, "x;y/z", "y/z", "0 ? x : y/z"},
		{41, false, "x/y;z", "x/y & (x/y | z)", "x/y"},
	} {
		a, b, bad := rules.Apply(c.rule, c.back, reads(t, strings.Split(c.parts, ";")...))
		if text(a, b) != text(reads(t, c.from, c.to)...) || bad != api.OK {
			t.Errorf("Apply(%d, %v) of %s: %s, %d", c.rule, c.back, c.parts, text(a, b), bad)
		}
	}
	appliesNot(t, "it may trap", 6, api.ErrNone, read(t, "1 / y"))
}

// TestApplyOfEveryRule: with parts of which all sides hold, and of which all holes can be told apart.
func TestApplyOfEveryRule(t *testing.T) {
	for _, r := range rows() {
		for _, parts := range [][]string{{"5", "-7", "9"}, {"1 + 2", "-(3)", "2 ? 3 : 4"}, {"x", "y", "z"}, {"x / 2", "~y", "0"}, {"7", "z % 3", "x"}, {"x / y", "3 - 1", "z / z"}} {
			_, _, bad := applies(t, r, reads(t, parts[:len(r.holes())]...)...)
			if bad != api.OK && len(r.sides) == 0 {
				t.Errorf("%s of %q: %d", r.name, parts, bad)
			}
		}
		if _, _, bad := applies(t, r, reads(t, "5", "-7", "9")[:len(r.holes())]...); bad != api.OK {
			t.Errorf("%s of numbers: %d", r.name, bad)
		}
	}
}

// TestSidesOfParts: for each rule, what is known of the parts by themselves decides, hole by hole.
func TestSidesOfParts(t *testing.T) {
	kinds := reads(t, "5", "0", "x", "x / y", "1 / 0", "3 - 3", "2 - 3", "x / 7", "x % (2 - 2)", "x * 0", "x - x")
	for _, r := range rows() {
		counts := map[api.Errno]int{}
		each(len(r.holes()), len(kinds), func(list []int) {
			var parts [][]api.Node
			for _, k := range list {
				parts = append(parts, kinds[k])
			}
			_, _, bad := applies(t, r, parts...)
			counts[bad]++
		})
		if counts[api.OK] == 0 || (counts[api.ErrNone] > 0) != (len(r.sides) > 0) || len(counts) > 2 {
			t.Errorf("%s: %v", r.name, counts)
		}
	}
	for name, texts := range map[string]string{
		"mul-zero": "1 / x", "div-self": "0", "rem-one": "x % 0", "if-same": "x / x;y", "if-false": "1 / 0;x", "absorb": "x;y % z",
		"unshift": "x;y", "div-rem": "x;0", "if-true": "0;x;y", "sub-self": "1 / (2 - 2)",
	} {
		appliesNot(t, texts, named(name).number, api.ErrNone, reads(t, strings.Split(texts, ";")...)...)
	}
	appliesNot(t, "b may trap", 38, api.ErrNone, reads(t, "1", "x", "y / z")...)
	appliesNot(t, "c is no constant", 38, api.ErrNone, reads(t, "x", "x", "y")...)
}

// environments is names with numbers at all ends, the same ones each time.
func environments() [][]api.Bind {
	r := rand.New(rand.NewSource(1721))
	list := [][]api.Bind{nil}
	for range 40 {
		var env []api.Bind
		for _, name := range []string{"x", "y", "é₂"} {
			n := edges[r.Intn(len(edges))]
			if r.Intn(3) == 0 {
				n = int64(r.Uint64())
			}
			env = append(env, api.Bind{Name: name, N: n})
		}
		list = append(list, env)
	}
	return list
}

// TestSameMeaning: what Apply answers comes to the same in every environment, or traps in it.
func TestSameMeaning(t *testing.T) {
	r := rand.New(rand.NewSource(1722))
	envs := environments()
	for _, rule := range rows() {
		applied, numbers, traps := 0, 0, 0
		for range 400 {
			from, to, bad := applies(t, rule, chanceParts(r, len(rule.holes()))...)
			if bad != api.OK {
				continue
			}
			applied++
			for _, env := range envs {
				a, badA := eval.Eval(from, env)
				b, badB := eval.Eval(to, env)
				if a != b || badA != badB {
					t.Fatalf("%s: %s in %v: %d, %d; %d, %d", rule.name, text(from, to), env, a, badA, b, badB)
				}
				if badA == api.ErrTrap {
					traps++
				} else {
					numbers++
				}
			}
		}
		// Where the one hole is total, nothing can trap.
		if applied < 40 || numbers < 1000 || traps == 0 && (len(rule.sides) == 0 || len(rule.holes()) > 1) {
			t.Errorf("%s: applied %d times, %d numbers, %d traps", rule.name, applied, numbers, traps)
		}
	}
}

// TestRandomParts: against the second reckoning, of parts that make too much, too.
func TestRandomParts(t *testing.T) {
	r := rand.New(rand.NewSource(1723))
	leaves := []api.Node{lit(0), lit(1), lit(-5), vari("x"), vari("y")}
	counts := map[api.Errno]int{}
	for range 4000 {
		rule := rows()[r.Intn(44)]
		var parts [][]api.Node
		for len(parts) < len(rule.holes()) {
			if part := chanceExpr(r, leaves, 1+r.Intn(8)); len(part) > 0 {
				parts = append(parts, part)
			}
		}
		_, _, bad := applies(t, rule, parts...)
		counts[bad]++
	}
	if counts[api.OK] < 500 || counts[api.ErrLarge] < 150 || counts[api.ErrNone] < 100 {
		t.Errorf("%v", counts)
	}
}

// TestSizes: each hole of each rule grows till it is too much.
func TestSizes(t *testing.T) {
	for _, r := range rows() {
		for at := range r.holes() {
			greatest := 0
			for size := 1; size <= api.MaxTerm; size++ {
				parts := reads(t, "3", "3", "3")[:len(r.holes())]
				parts[at] = long(size)
				from, to, bad := applies(t, r, parts...)
				if bad == api.OK {
					greatest = max(greatest, len(from), len(to))
				} else if bad != api.ErrLarge {
					t.Fatalf("%s of %d: %d", r.name, size, bad)
				}
			}
			// A hole stands at most three times in a pattern.
			if greatest < api.MaxTerm-2 {
				t.Errorf("%s: the greatest has %d nodes", r.name, greatest)
			}
		}
	}
}

// TestLargest: just MaxTerm nodes, and one more, of both answers or of one alone.
func TestLargest(t *testing.T) {
	for _, c := range []struct {
		rule        string
		sizes       []int
		left, right int
	}{
		{"add-comm", []int{31, 32}, 64, 64}, {"add-comm", []int{32, 32}, 65, 65}, {"add-comm", []int{1, 62}, 64, 64},
		{"neg-mul", []int{62}, 63, 64}, {"neg-mul", []int{63}, 64, 65}, {"mul-neg", []int{62}, 64, 63}, {"mul-neg", []int{63}, 65, 64},
		{"add-zero", []int{62}, 64, 62}, {"add-zero", []int{63}, 65, 63}, {"shr-zero", []int{64}, 66, 64},
		{"mul-zero", []int{62}, 64, 1}, {"mul-zero", []int{63}, 65, 1}, {"sub-self", []int{31}, 63, 1}, {"sub-self", []int{32}, 65, 1},
		{"neg-neg", []int{62}, 64, 62}, {"neg-neg", []int{63}, 65, 63}, {"not-neg", []int{61}, 62, 64}, {"not-neg", []int{62}, 63, 65},
		{"twice", []int{31}, 63, 33}, {"twice", []int{32}, 65, 34}, {"unshift", []int{59, 1}, 61, 63}, {"unshift", []int{60, 1}, 62, 64}, {"unshift", []int{60, 2}, 63, 65},
		{"spread", []int{30, 1, 1}, 34, 65}, {"spread", []int{29, 1, 2}, 34, 64}, {"gather", []int{30, 1, 1}, 65, 34}, {"gather", []int{29, 2, 1}, 64, 34},
		{"morgan", []int{30, 30}, 62, 63}, {"morgan", []int{30, 31}, 63, 64}, {"morgan", []int{31, 31}, 64, 65},
		{"div-rem", []int{2, 18}, 62, 2}, {"div-rem", []int{3, 18}, 64, 3}, {"div-rem", []int{2, 19}, 65, 2},
		{"if-true", []int{1, 1, 61}, 64, 1}, {"if-true", []int{1, 1, 62}, 65, 1}, {"if-false", []int{61, 1}, 64, 1}, {"if-false", []int{62, 1}, 65, 1},
		{"absorb", []int{30, 2}, 64, 30}, {"absorb", []int{30, 3}, 65, 30},
	} {
		var parts [][]api.Node
		for _, size := range c.sizes {
			parts = append(parts, long(size))
		}
		if max(c.left, c.right) > api.MaxTerm {
			appliesNot(t, c.rule, named(c.rule).number, api.ErrLarge, parts...)
			continue
		}
		a, b, bad := rules.Apply(named(c.rule).number, false, parts)
		if bad != api.OK || len(a) != c.left || len(b) != c.right || expr.Check(a) != api.OK || expr.Check(b) != api.OK {
			t.Errorf("%s of %v: %d and %d nodes, %d, want %d and %d", c.rule, c.sizes, len(a), len(b), bad, c.left, c.right)
		}
		applies(t, named(c.rule), parts...)
	}
}

// faults is lists that are no sound expressions.
func faults() map[string][]api.Node {
	return map[string][]api.Node{
		"nil": nil, "empty": {}, "two literals": {lit(1), lit(2)}, "a sum alone": {do(api.OpAdd)},
		"a hole": {{Op: api.OpHole, Name: "a"}}, "a hole in a sum": {{Op: api.OpHole, Name: "a"}, lit(0), do(api.OpAdd, 0, 1)},
		"op 0": {{}}, "op -1": {{Op: -1}}, "op 19": {{Op: 19}}, "op far above": {{Op: math.MaxInt, Kids: []int{0}}},
		"parts about":  {vari("a"), lit(1), do(api.OpAdd, 1, 0)},
		"one part":     {vari("a"), do(api.OpAdd, 0)},
		"three parts":  {vari("a"), vari("b"), vari("c"), do(api.OpAdd, 0, 1, 2)},
		"part -1":      {vari("a"), do(api.OpNeg, -1)},
		"itself":       {do(api.OpNeg, 0)},
		"far behind":   {vari("a"), do(api.OpNeg, math.MaxInt)},
		"one part two": {vari("a"), do(api.OpAdd, 0, 0)},
		"N":            {vari("a"), {Op: api.OpNeg, N: 1, Kids: []int{0}}},
		"a name":       {{Op: api.OpLit, Name: "a"}},
		"no name":      {vari("")}, "a number": {vari("3")}, "a bad byte": {vari("a\xff")},
		"a long name":  {vari(strings.Repeat("é", api.MaxName+1))},
		"too many":     long(api.MaxTerm + 1),
		"far too many": long(1 << 12),
	}
}

// TestUnsoundParts: ErrForm counts ahead of all else, wherever the part stands.
func TestUnsoundParts(t *testing.T) {
	most := long(api.MaxTerm)
	for what, fault := range faults() {
		for _, r := range rows() {
			for at := range r.holes() {
				for _, other := range [][]api.Node{{vari("x")}, most, read(t, "1 / 0")} {
					parts := slices.Repeat([][]api.Node{other}, len(r.holes()))
					parts[at] = fault
					appliesNot(t, what, r.number, api.ErrForm, parts...)
				}
			}
			appliesNot(t, what, r.number, api.ErrForm, most, most, most, fault)
			appliesNot(t, what, r.number, api.ErrForm, fault, most, most, most)
			appliesNot(t, what, r.number, api.ErrForm, slices.Repeat([][]api.Node{fault}, 5)...)
		}
		for _, k := range noRules {
			appliesNot(t, what, k, api.ErrForm, fault)
			appliesNot(t, what, k, api.ErrForm, most, fault)
		}
	}
}

// TestWrongArguments: numbers that are no rule's, and parts too few and too many; both count ahead of what is too large, and of sides.
func TestWrongArguments(t *testing.T) {
	trap, most := read(t, "1 / 0"), long(api.MaxTerm)
	for _, part := range [][]api.Node{{lit(5)}, trap, most} {
		for _, r := range rows() {
			for many := range 8 {
				if many != len(r.holes()) {
					appliesNot(t, "another number of parts", r.number, api.ErrArg, slices.Repeat([][]api.Node{part}, many)...)
				}
			}
			appliesNot(t, "many parts", r.number, api.ErrArg, slices.Repeat([][]api.Node{part}, 1000)...)
		}
		for _, k := range noRules {
			for many := range 5 {
				appliesNot(t, "no rule", k, api.ErrArg, slices.Repeat([][]api.Node{part}, many)...)
			}
		}
	}
}

// TestLargeAheadOfSides: ErrLarge counts ahead of ErrNone.
func TestLargeAheadOfSides(t *testing.T) {
	for size, want := range map[int]api.Errno{60: api.ErrNone, 62: api.ErrNone, 63: api.ErrLarge, 64: api.ErrLarge} {
		e := read(t, strings.Repeat("~", size-3)+"(x / y)")
		if f, _ := facts.Of(e); len(e) != size || f.Total {
			t.Fatalf("%d nodes", len(e))
		}
		appliesNot(t, "not Total", 6, want, e)
		appliesNot(t, "not Total", 33, want, e)
	}
	for _, r := range rows() {
		if len(r.sides) > 0 {
			appliesNot(t, r.name, r.number, api.ErrLarge, slices.Repeat([][]api.Node{read(t, strings.Repeat("~", 60)+"(x / y)")}, len(r.holes()))...)
			appliesNot(t, r.name, r.number, api.ErrNone, slices.Repeat([][]api.Node{read(t, "x / y")}, len(r.holes()))...)
		}
	}
}
