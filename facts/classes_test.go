package facts_test

import (
	"fmt"
	"math/rand"
	"slices"
	"strings"
	"testing"

	"sorrel/api"
	"sorrel/eval"
	"sorrel/facts"
	"sorrel/graph"
	"sorrel/picture"
)

func class(size int, nodes ...api.Node) api.Class { return api.Class{Nodes: nodes, Size: size} }

// pic is a picture of classes, without roots.
func pic(classes ...api.Class) api.Picture { return api.Picture{Classes: classes} }

// told is the picture of expressions, each a root; = between two: they are merged.
func told(t *testing.T, lines ...string) api.Picture {
	t.Helper()
	g := graph.New()
	for _, s := range lines {
		bad := api.OK
		if a, b, merged := strings.Cut(s, " = "); merged {
			bad = g.Merge(read(t, a), read(t, b))
		} else {
			bad = g.Add(read(t, s))
		}
		if bad != api.OK {
			t.Fatalf("%q: %d", s, bad)
		}
	}
	return drawn(t, g)
}

// classesKnow holds Classes against what has to be known of each class.
func classesKnow(t *testing.T, p api.Picture, want ...api.Fact) {
	t.Helper()
	list, bad := facts.Classes(p)
	if bad != api.OK || len(list) != len(want) {
		t.Fatalf("Classes(%s): %d facts, %d, want %d", text(p), len(list), bad, len(want))
	}
	for c, f := range list {
		if f != want[c] {
			t.Fatalf("Classes(%s): %v of class %d, want %v", text(p), f, c, want[c])
		}
	}
}

// must is the answer of Classes, of a sound picture.
func must(t *testing.T, p api.Picture) []api.Fact {
	t.Helper()
	list, bad := facts.Classes(p)
	if bad != api.OK || len(list) != len(p.Classes) {
		t.Fatalf("Classes(%s): %d facts, %d", text(p), len(list), bad)
	}
	return list
}

// classKnows holds what is known of the class of an expression against what has to be.
func classKnows(t *testing.T, p api.Picture, s string, want api.Fact) {
	t.Helper()
	if f := must(t, p)[home(t, p, read(t, s))]; f != want {
		t.Errorf("Classes(%s): %v of %s, want %v", text(p), f, s, want)
	}
}

// P13.2

func TestClassesExamples(t *testing.T) {
	p := told(t, "a / (1 + 1)")
	classKnows(t, p, "1 + 1", api.Fact{Total: true, Const: true, N: 2})
	classKnows(t, p, "a / (1 + 1)", api.Fact{Total: true})
	classesKnow(t, p, number(1), sure, number(2), sure)
	classesKnow(t, pic(class(1, lit(3), lit(5))), api.Fact{Total: true, Const: true, N: 3})
}

func TestClassesOfNothing(t *testing.T) {
	for _, p := range []api.Picture{{}, {Classes: []api.Class{}, Roots: []int{}}} {
		classesKnow(t, p)
	}
}

// TestClassesOfLeaves: numbers at both ends, variables, and both in one class.
func TestClassesOfLeaves(t *testing.T) {
	var p api.Picture
	var want []api.Fact
	for _, n := range edges {
		p.Classes, want = append(p.Classes, class(1, lit(n))), append(want, number(n))
		classesKnow(t, pic(class(1, lit(n), vari("a"))), number(n))
	}
	classesKnow(t, p, want...)
	classesKnow(t, pic(class(1, vari("a")), class(1, vari("b"), vari("é"))), sure, sure)
	// A variable gives no number, not 0 either.
	classesKnow(t, pic(class(1, lit(5), vari("a")), class(1, vari("b")), class(2, do(api.OpNeg, 1))), number(5), sure, sure)
}

// TestClassesOfOperators: every operator over each kind of class in each place.
func TestClassesOfOperators(t *testing.T) {
	kinds := []string{"6", "0", "1 - 9", "x", "x % 5", "a / b", "1 / 0"}
	for op := api.OpNeg; op <= api.OpIf; op++ {
		for row := range 7 * 7 * 7 {
			var parts [][]api.Node
			for range arities[op] {
				parts = append(parts, read(t, kinds[row%7]))
				row /= 7
			}
			e := made(t, op, parts...)
			g := graph.New()
			g.Add(e)
			p := drawn(t, g)
			if f := must(t, p)[p.Roots[0]]; f != factOf(e) {
				t.Fatalf("Classes(%s): %v, want %v", text(p), f, factOf(e))
			}
		}
	}
}

// TestClassesOfNumbers: every operator of numbers at both ends and in between.
func TestClassesOfNumbers(t *testing.T) {
	for op := api.OpNeg; op <= api.OpIf; op++ {
		g := graph.New()
		var roots [][]api.Node
		for _, a := range edges {
			for _, b := range edges {
				e := made(t, op, [][]api.Node{{lit(a)}, {lit(b)}, {lit(5)}}[:arities[op]]...)
				g.Add(e)
				roots = append(roots, e)
			}
		}
		p := drawn(t, g)
		list := must(t, p)
		for i, e := range roots {
			if f := list[p.Roots[i]]; f != factOf(e) {
				t.Fatalf("%v of %v, want %v", f, e, factOf(e))
			}
		}
	}
}

// TestSeveralNumbers: the least of one step, and the one of the first step that gives one.
func TestSeveralNumbers(t *testing.T) {
	for _, c := range []struct {
		lines []string
		s     string
		want  int64
	}{
		// In the first step.
		{[]string{"5 = 3"}, "5", 3},
		{[]string{"-5 = -3", "-3 = 0"}, "0", -5},
		{[]string{"9223372036854775807 = -9223372036854775808", "0 = 9223372036854775807"}, "0", least},
		// In the second.
		{[]string{"1 + 2 = 2 + 3"}, "2 + 3", 3},
		{[]string{"2 + 3 = 1 + 2", "2 + 3 = 1 - 2"}, "1 + 2", -1},
		{[]string{"2 * 3 = ~4", "2 * 3 = 7 / 2"}, "7 / 2", -5},
		{[]string{"1 ? 8 : 9 = 7 == 7", "7 == 7 = 7 & 6"}, "7 == 7", 1},
		// In several: a lesser one comes too late.
		{[]string{"5 = 1 + 1"}, "5", 5},
		{[]string{"5 = -(1)", "5 = x"}, "x", 5},
		{[]string{"-(1) = -(1 + 1)"}, "-(1)", -1},
		{[]string{"~(~(1 + 1)) = 3 + 4", "3 + 4 = 8 - (2 - 4)"}, "3 + 4", 7},
		{[]string{"1 + 1 = 2 - 9 / 3", "3 * 3 = 1 + 1", "1 + 1 = -(~7)"}, "3 * 3", 2},
		// A greater one, too.
		{[]string{"1 + 1 = -(-9)"}, "1 + 1", 2},
		{[]string{"-(-(2)) = 3 * 3 + 1", "3 * 3 + 1 = 2 - 1"}, "2 - 1", 1},
	} {
		p := told(t, c.lines...)
		classKnows(t, p, c.s, number(c.want))
		classesKnow(t, p, factsOf(p)...)
	}
}

// TestSeveralNumbersGoOn: what stands above a class with several numbers takes up the one that the class has.
func TestSeveralNumbersGoOn(t *testing.T) {
	p := told(t, "5 = 3", "-(5)", "3 * 3", "7 / (5 - 3)", "a / (3 - 5)")
	classKnows(t, p, "-(5)", number(-3))
	classKnows(t, p, "3 * 5", number(9))
	classKnows(t, p, "5 - 3", number(0))
	classKnows(t, p, "7 / (5 - 3)", nothing)
	classKnows(t, p, "a / (5 - 5)", nothing)
	// The class of 1 + 1 is 2 in the second step, and stays so when 0 comes to it in the third.
	p = told(t, "1 + 1 = (3 - 3) * 4", "a / (1 + 1)", "6 / (1 + 1)", "~(1 + 1)")
	classKnows(t, p, "a / (1 + 1)", sure)
	classKnows(t, p, "6 / ((3 - 3) * 4)", number(3))
	classKnows(t, p, "~(1 + 1)", number(-3))
	// 0 of two numbers in one step; and what is below it.
	p = told(t, "0 = 4", "a / 4", "8 % 4")
	classKnows(t, p, "a / 4", nothing)
	classKnows(t, p, "8 % 4", nothing)
	p = told(t, "0 = -2", "a / 0", "8 / 0")
	classKnows(t, p, "a / 0", sure)
	classKnows(t, p, "8 / 0", number(-4))
}

// TestStepsAreApart: what is found in a step counts from the next one on, whichever class stands first.
func TestStepsAreApart(t *testing.T) {
	one, minus, two := class(1, lit(1)), class(2, do(api.OpNeg, 0)), class(3, do(api.OpAdd, 0, 0))
	// Those of -1 and of 1 + 1 are found in the second step; so the one between them in the third, by both its nodes.
	classesKnow(t, pic(one, minus, class(3, do(api.OpNot, 1), do(api.OpSub, 0, 3)), two), number(1), number(-1), number(-1), number(2))
	// Here the last one is found in the second step, by 1 alone, though a class ahead of it is found in that step, too.
	classesKnow(t, pic(one, minus, class(2, do(api.OpNot, 0), do(api.OpShl, 1, 1))), number(1), number(-1), number(-2))
	classesKnow(t, pic(one, two, class(3, do(api.OpSub, 0, 0), do(api.OpSub, 0, 1))), number(1), number(2), number(0))
	// And here a class behind is what would come too early.
	classesKnow(t, pic(one, class(2, do(api.OpNot, 0), do(api.OpSub, 0, 2)), two), number(1), number(-2), number(2))
	classesKnow(t, pic(one, class(2, do(api.OpNeg, 0), do(api.OpMul, 1, 2), do(api.OpShl, 2, 2)), class(3, do(api.OpSub, 0, 0), do(api.OpXor, 1, 0))), number(1), number(-1), number(0))
	classesKnow(t, pic(one, class(1, vari("a"), do(api.OpNeg, 2)), class(1, vari("b"), do(api.OpAdd, 0, 0), do(api.OpIf, 0, 1, 1))), number(1), number(-2), number(2))
}

// TestCycles: classes around themselves and around one another.
func TestCycles(t *testing.T) {
	for _, c := range []struct {
		lines []string
		s     string
		want  api.Fact
	}{
		{[]string{"a = a + 1"}, "a", sure},
		{[]string{"a = a + 1", "a = 5"}, "a", number(5)},
		{[]string{"a = -a", "a = 7 * 1"}, "a", number(7)},
		{[]string{"a = -b", "b = -a"}, "b", sure},
		{[]string{"a = -b", "b = ~a", "b = 1 + 1"}, "a", number(-2)},
		{[]string{"a = -b", "b = ~a", "b = 1 + 1"}, "b", number(2)},
		{[]string{"a = 1 / a"}, "a", sure},
		// No class is a constant, or Total, by itself alone.
		{[]string{"a / b = a / b + 1"}, "a / b", nothing},
		{[]string{"a / b = (a / b) * 0"}, "a / b", nothing},
		{[]string{"1 / 0 = -(1 / 0)"}, "1 / 0", nothing},
		{[]string{"1 / 0 = 1 / 0 - 1 / 0"}, "1 / 0", nothing},
		{[]string{"a / b = -(b / a)", "b / a = ~(a / b)"}, "b / a", nothing},
		{[]string{"a / b = -(b / a)", "b / a = ~(a / b)", "b / a = c"}, "a / b", sure},
		{[]string{"a / b = -(b / a)", "b / a = ~(a / b)", "b / a = 2 * 3"}, "a / b", number(-6)},
		// A divisor that is found by way of a cycle.
		{[]string{"x = y + 1", "y = x - 1", "a / y"}, "a / y", nothing},
		{[]string{"x = y + 1", "y = x - 1", "a / y", "x = 4"}, "a / y", sure},
		{[]string{"x = y + 1", "y = x - 1", "a / y", "x = 1"}, "a / y", nothing},
		{[]string{"a / x = x", "x = 3 - 1"}, "a / x", number(2)},
	} {
		p := told(t, c.lines...)
		classKnows(t, p, c.s, c.want)
		classesKnow(t, p, factsOf(p)...)
	}
}

// TestOneNodeOfSeveral: one node is enough to show a fact, whichever it is.
func TestOneNodeOfSeveral(t *testing.T) {
	for _, c := range []struct {
		lines []string
		s     string
		want  api.Fact
	}{
		{[]string{"a / b = c / d", "c / d = a % b"}, "a / b", nothing},
		{[]string{"a / b = c / d", "c / d = a % 2"}, "a / b", sure},
		{[]string{"a / 2 = a / b", "a / b = b % a"}, "a / b", sure},
		{[]string{"a / b = c"}, "a / b", sure},
		{[]string{"a / b = c * d"}, "a / b", sure},
		{[]string{"a / b = (c / d) * 2", "c / d = d"}, "a / b", sure},
		{[]string{"a / b = 3"}, "a / b", number(3)},
		{[]string{"a / b = 1 + 2"}, "a / b", number(3)},
		{[]string{"1 / 0 = 5"}, "1 / 0", number(5)},
		{[]string{"1 / 0 = 4 - 3"}, "1 / 0", number(1)},
		{[]string{"1 / 0 = a"}, "1 / 0", sure},
		{[]string{"1 / 0 = a / b"}, "1 / 0", nothing},
		{[]string{"a = b", "a = 1 ? 2 : 3"}, "b", number(2)},
		{[]string{"a + b = b + a", "a + b = 2 << 2"}, "b + a", number(8)},
		{[]string{"a ^ a = 0", "a - a = 0", "b / (a ^ a)"}, "b / (a - a)", nothing},
		{[]string{"a | 1 = 1", "b % (a | 1)"}, "b % (a | 1)", sure},
	} {
		p := told(t, c.lines...)
		classKnows(t, p, c.s, c.want)
		classesKnow(t, p, factsOf(p)...)
	}
}

// above is a picture with more classes behind the last one, each with an operator of the one ahead.
func above(p api.Picture, op, many int) api.Picture {
	for range many {
		last := len(p.Classes) - 1
		p.Classes = append(p.Classes, class(p.Classes[last].Size+1, do(op, last)))
	}
	return p
}

// line is a leaf, and negations around it, one class each.
func line(leaf api.Node, many int) api.Picture { return above(pic(class(1, leaf)), api.OpNeg, many-1) }

// TestManySteps: constants, and what is Total, that are found in as many steps as there are classes.
func TestManySteps(t *testing.T) {
	for _, many := range []int{2, 3, 100, api.MaxClasses} {
		classesKnow(t, line(lit(7), many), slices.Repeat([]api.Fact{number(7), number(-7)}, (many+1)/2)[:many]...)
		classesKnow(t, line(vari("a"), many), slices.Repeat([]api.Fact{sure}, many)...)
	}
	// From the last class to the first, as each is turned out of the one behind it.
	const many = 500
	p := pic(class(1, lit(9)))
	want := []api.Fact{number(9)}
	for i := 1; i <= many; i++ {
		p.Classes = append(p.Classes, class(1, vari(fmt.Sprintf("v%03d", i)), do(api.OpNot, (i+1)%(many+1))))
		want = append(want, []api.Fact{number(-10), number(9)}[(many-i)%2])
	}
	classesKnow(t, p, want...)
	// Without the number that they begin with, which no other takes the place of.
	p.Classes[0].Nodes[0] = vari("u")
	classesKnow(t, p, slices.Repeat([]api.Fact{sure}, many+1)...)
}

// TestLateDivisors: what is Total only by way of a constant that is found late.
func TestLateDivisors(t *testing.T) {
	late := "1 + 1"
	for range 12 {
		late = "-(" + late + ")"
		p := told(t, "a / ("+late+")", "(a % ("+late+")) * 3", "-(b / ((a / ("+late+")) * 0))")
		classKnows(t, p, "a / ("+late+")", sure)
		classKnows(t, p, "(a % ("+late+")) * 3", sure)
		classKnows(t, p, "-(b / ((a / ("+late+")) * 0))", nothing)
		p = told(t, "d = "+late, "a / d", "b / (a / d)", "a / d = e % d", "(a / d) / (b / (a / d))")
		classKnows(t, p, "e % d", sure)
		classKnows(t, p, "b / (a / d)", nothing)
		classKnows(t, p, "(a / d) / (b / (a / d))", nothing)
		// Of two numbers the one that is found first counts, be it 0 or not.
		p = told(t, "d = "+late, "d = 3 - 3", "a / d")
		classKnows(t, p, "a / d", nothing)
		p = told(t, "d = 0 * ("+late+")", "d = 3 - 1", "a / d")
		classKnows(t, p, "a / d", sure)
	}
	// Above a division that is found late many classes wait for it, one after the other.
	for op := api.OpDiv; op <= api.OpRem; op++ {
		p := pic(class(1, lit(1)), class(1, vari("a")), class(2, do(api.OpNeg, 0)))
		p = above(p, api.OpNeg, 997)
		p.Classes = append(p.Classes, class(1001, do(op, 1, 999)))
		p = above(p, api.OpNot, 1000)
		list := must(t, p)
		if list[999] != number(1) {
			t.Fatalf("%v of the divisor", list[999])
		}
		for c := 1000; c < len(p.Classes); c++ {
			if list[c] != sure {
				t.Fatalf("%v of class %d", list[c], c)
			}
		}
	}
}

// TestClassesAtTheLimits: as many classes, as many nodes, and as great a Size as there may be.
func TestClassesAtTheLimits(t *testing.T) {
	var heap []api.Node
	for i := range api.MaxNodes {
		heap = append(heap, lit(int64(i-api.MaxNodes/2)))
	}
	classesKnow(t, pic(class(1, heap...)), number(-api.MaxNodes/2))

	var pairs api.Picture
	var want []api.Fact
	for i := range api.MaxClasses {
		pairs.Classes = append(pairs.Classes, class(1, heap[2*i:2*i+2]...))
		want = append(want, number(int64(2*i-api.MaxNodes/2)))
	}
	classesKnow(t, pairs, want...)

	for _, leaf := range []struct {
		n    api.Node
		fact func(level int) api.Fact
	}{
		{lit(3), func(level int) api.Fact { return number(3 << level) }},
		{vari("a"), func(int) api.Fact { return sure }},
	} {
		tower := pic(class(1, leaf.n))
		want := []api.Fact{leaf.fact(0)}
		for level := range 29 {
			tower.Classes = append(tower.Classes, class(4<<level-1, do(api.OpAdd, level, level)))
			want = append(want, leaf.fact(level+1))
		}
		if is := tower.Classes[29].Size; is != api.MaxSize-1 {
			t.Fatalf("the greatest Size is %d", is)
		}
		tower.Roots = slices.Repeat([]int{29, 0}, 5000)
		classesKnow(t, tower, want...)
	}

	// A line of MaxClasses with a second node in each class, of which the last gives a lesser number too late.
	full := line(lit(7), api.MaxClasses)
	want = slices.Repeat([]api.Fact{number(7), number(-7)}, api.MaxClasses/2)
	for i := range full.Classes {
		full.Classes[i].Nodes = append(full.Classes[i].Nodes, do(api.OpMul, api.MaxClasses-1, i))
	}
	if many, bad := picture.Nodes(full); many != api.MaxNodes || bad != api.OK {
		t.Fatalf("%d nodes, %d", many, bad)
	}
	classesKnow(t, full, want...)
}

// TestClassesByChance: random pictures against the second reckoning.
func TestClassesByChance(t *testing.T) {
	r := rand.New(rand.NewSource(1303))
	many := map[api.Fact]int{}
	quarrel := 0
	for range 6000 {
		p := chance(t, r, 2+r.Intn(2), r.Intn(6))
		if !small(p) {
			continue
		}
		classesKnow(t, p, factsOf(p)...)
		if quarrels(p) {
			quarrel++
		}
		for _, f := range must(t, p) {
			f.N = 0
			many[f]++
		}
	}
	for _, f := range []api.Fact{nothing, sure, number(0)} {
		if many[f] < 1500 {
			t.Errorf("%v is known of %d classes alone", f, many[f])
		}
	}
	if len(many) != 3 || quarrel < 500 {
		t.Errorf("%v, %d pictures with classes that are given two numbers", many, quarrel)
	}
}

// What follows of P13.2.

// TestConstIsTotal: and N is 0 where there is no constant.
func TestConstIsTotal(t *testing.T) {
	r := rand.New(rand.NewSource(1304))
	for range 1500 {
		p := chance(t, r, 4, r.Intn(30))
		for c, f := range must(t, p) {
			if f.Const && !f.Total || !f.Const && f.N != 0 {
				t.Fatalf("Classes(%s): %v of class %d", text(p), f, c)
			}
		}
	}
}

// TestOfAndClasses: what is known of an expression is known of its class, where no class is given two numbers.
func TestOfAndClasses(t *testing.T) {
	r := rand.New(rand.NewSource(1305))
	many := map[api.Fact]int{}
	for range 1500 {
		p := chance(t, r, 3, r.Intn(4))
		if quarrels(p) {
			continue
		}
		for c, is := range must(t, p) {
			terms, _ := picture.Terms(p, c, 5)
			for e := range terms {
				f, _ := facts.Of(e)
				if f.Total && !is.Total || f.Const && is != f {
					t.Fatalf("Classes(%s): %v of class %d, which has %v, that is %v", text(p), is, c, e, f)
				}
				f.N = 0
				many[f]++
			}
		}
	}
	if many[sure] < 1000 || many[number(0)] < 1000 {
		t.Errorf("%v", many)
	}
	// Where one is, it need not be so.
	p := told(t, "0 = 1", "a / 1", "5 / 1")
	knows(t, read(t, "a / 1"), sure)
	classKnows(t, p, "a / 1", nothing)
	knows(t, read(t, "5 / 1"), number(5))
	classKnows(t, p, "5 / 1", nothing)
}

// TestFactsHold: of classes that represent expressions of one meaning alone, in every environment.
func TestFactsHold(t *testing.T) {
	r := rand.New(rand.NewSource(1306))
	equal := []string{"a + b = b + a", "a * 2 = a + a", "a - a = 0", "a ^ a = 0", "a & 0 = 0", "a | -1 = -1", "-(-a) = a", "~(~b) = b", "0 * b = 0", "b - b = 0", "1 + 1 = 2", "2 - 1 = 1", "a == a = 1", "b < b = 0", "a / 1 = a", "b % 1 = 0", "1 ? a : b = a", "a % -1 = 0", "0 / 1 = 0"}
	for range 1500 {
		g := graph.New()
		var list [][]api.Node
		for range 1 + r.Intn(3) {
			e := chanceExpr(r, leaves, 4)
			list = append(list, e)
			g.Add(e)
		}
		for range r.Intn(12) {
			a, b, _ := strings.Cut(equal[r.Intn(len(equal))], " = ")
			list = append(list, read(t, a), read(t, b))
			g.Merge(read(t, a), read(t, b))
		}
		p := drawn(t, g)
		known := must(t, p)
		for _, e := range list {
			f := known[home(t, p, e)]
			for range 5 {
				names := []api.Bind{{Name: "a", N: edges[r.Intn(len(edges))]}, {Name: "b", N: int64(r.Intn(5) - 2)}}
				if n, bad := eval.Eval(e, names); f.Total && bad != api.OK || f.Const && n != f.N {
					t.Fatalf("Classes(%s): %v of %v, which comes to %d, %d where %v", text(p), f, e, n, bad, names)
				}
			}
		}
	}
}
