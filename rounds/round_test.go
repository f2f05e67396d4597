package rounds_test

import (
	"fmt"
	"math"
	"math/rand"
	"slices"
	"testing"

	"sorrel/api"
	"sorrel/eval"
	"sorrel/graph"
	"sorrel/pattern"
	"sorrel/picture"
	"sorrel/rounds"
	"sorrel/rules"
)

// P18.2

// rounded is a round that was done, held against both reckonings.
func rounded(t *testing.T, mask uint64, lines ...string) api.Picture {
	t.Helper()
	q, why, _ := held(t, told(t, lines...), mask)
	if why != 0 {
		t.Fatalf("%q: %d", lines, why)
	}
	return q
}

func TestRoundExamples(t *testing.T) {
	const want = "0: 1/0/[] size 1; 1: 2/0/x[] 5/0/[1 0] size 1; [1]"
	q := rounded(t, bits("add-zero"), "x + 0")
	is(t, q, want)
	again, why, _ := held(t, q, bits("add-zero"))
	is(t, again, want)
	if why != 0 {
		t.Error(why)
	}
	is(t, rounded(t, 1<<7, "x - x"), "0: 1/0/[] 6/0/[1 1] size 1; 1: 2/0/x[] size 1; [0]")
	is(t, rounded(t, 1<<7, "x / y - x / y"), "0: 2/0/x[] size 1; 1: 2/0/y[] size 1; 2: 8/0/[0 1] size 3; 3: 6/0/[2 2] size 7; [3]")
}

func TestRoundOfNothing(t *testing.T) {
	for _, p := range []api.Picture{{}, {Classes: []api.Class{}, Roots: []int{}}} {
		for bit := range 64 {
			if q, _, _ := held(t, p, 1<<bit); len(q.Classes)+len(q.Roots) != 0 {
				t.Error(drawing(q))
			}
		}
		held(t, p, math.MaxUint64)
	}
}

// TestRoundWithoutRules: it is Fold, with bits from 44 on, too.
func TestRoundWithoutRules(t *testing.T) {
	r := rand.New(rand.NewSource(1821))
	list := []api.Picture{base(), tower(29), told(t, "(1 + 2) * x", "x + 0"), told(t, "3 + z = 8", "((1 + 2) + z) * 2 + 0")}
	for range 200 {
		list = append(list, chance(t, r, 3))
	}
	for _, p := range list {
		want, _ := folds(t, p)
		for _, mask := range []uint64{0, 1 << 44, 1 << 63, ^uint64(allRules)} {
			q, why, bad := rounds.Round(p, mask)
			is(t, q, drawing(want))
			if why != 0 || bad != api.OK {
				t.Error(why, bad)
			}
		}
	}
	// Those bits change nothing beside others, either.
	q, _, _ := rounds.Round(told(t, "x + 0", "x - y"), bits("add-zero")|1<<50)
	says(t, q, "x + 0 = x", "no -y")
}

// sides is what the two sides of a rule are with parts.
func sides(t *testing.T, r api.Rule, parts ...string) (left, right []api.Node) {
	t.Helper()
	names, _ := pattern.Holes(r.Left)
	own, _ := pattern.Holes(r.Right)
	var byLeft, byRight [][]api.Node
	for _, s := range parts[:len(names)] {
		byLeft = append(byLeft, read(t, s))
	}
	for _, name := range own {
		byRight = append(byRight, byLeft[slices.Index(names, name)])
	}
	left, _ = pattern.Fill(r.Left, byLeft)
	right, _ = pattern.Fill(r.Right, byRight)
	return left, right
}

// TestEachRule: alone, it brings its right side beside its left one, with the holes where they have to be; where a side does not hold, nothing.
func TestEachRule(t *testing.T) {
	for k, r := range rules.All() {
		for i, parts := range [][]string{{"u", "v", "w"}, {"5", "9", "6"}, {"a / b", "c / d", "5 / 0"}} {
			left, right := sides(t, r, parts...)
			p := pictureOf(t, left)
			q, why, _ := held(t, p, 1<<k)
			matches, _ := rules.Matches(p, 1<<k)
			if len(matches) == 0 {
				is(t, q, drawing(mustFold(t, p)))
				if i < 2 && len(r.Sides) == 0 {
					t.Errorf("%s of %q has no match", r.Name, parts)
				}
				continue
			}
			a, _ := picture.Class(q, left)
			b, bad := picture.Class(q, right)
			if a != b || bad != api.OK || why != 0 || q.Roots[0] != a {
				t.Errorf("%s of %q: %s, %d", r.Name, parts, drawing(q), bad)
			}
		}
	}
}

// pictureOf is the picture of one expression, which is the root.
func pictureOf(t *testing.T, e []api.Node) api.Picture {
	t.Helper()
	g := graph.New()
	if bad := g.Add(e); bad != api.OK {
		t.Fatal(bad)
	}
	return drawn(t, g)
}

// mustFold is Fold of a sound picture that stays within the limits.
func mustFold(t *testing.T, p api.Picture) api.Picture {
	t.Helper()
	q, why, bad := rounds.Fold(p)
	if why != 0 || bad != api.OK {
		t.Fatal(why, bad)
	}
	return q
}

// TestRightSides: of all shapes.
func TestRightSides(t *testing.T) {
	for _, c := range []struct {
		rule  string
		lines []string
		want  []string
	}{
		// A hole alone.
		{"add-zero", []string{"x + 0", "-(x + 0)", "-x"}, []string{"x + 0 = x", "-(x + 0) = -x"}},
		{"neg-neg", []string{"--x", "---y"}, []string{"--x = x", "---y = -y", "x # y"}},
		{"if-same", []string{"x ? y / z : y / z"}, []string{"x ? y / z : y / z = y / z", "x # y"}},
		// A literal, which is there already or not.
		{"mul-zero", []string{"x * 0"}, []string{"x * 0 = 0", "x # 0"}},
		{"div-self", []string{"7 / 7"}, []string{"7 / 7 = 1"}},
		{"div-self", []string{"7 / 7", "1 + x", "7 / 7 + x"}, []string{"7 / 7 + x = 1 + x"}},
		{"rem-one", []string{"x % 1"}, []string{"x % 1 = 0", "1 # 0"}},
		// A hole more than once.
		{"spread", []string{"x * (y + z)"}, []string{"x * (y + z) = x * y + x * z", "no x * z + x * y"}},
		{"gather", []string{"x * y + x * z"}, []string{"x * (y + z) = x * y + x * z"}},
		{"morgan", []string{"~(x & y)"}, []string{"~(x & y) = ~x | ~y", "~x # ~y"}},
		{"spread", []string{"x * (x + x)"}, []string{"x * (x + x) = x * x + x * x"}},
		// It stands in the picture already: beside the left side, or elsewhere.
		{"add-comm", []string{"x + y = y + x"}, []string{"x + y = y + x"}},
		{"add-comm", []string{"x + y", "y + x", "-(x + y)", "-(y + x)"}, []string{"x + y = y + x", "-(x + y) = -(y + x)"}},
		{"add-comm", []string{"x + x"}, []string{"x + x # x"}},
		{"sub-add", []string{"x - y", "x + -y = z"}, []string{"x - y = z", "x + -y = z"}},
		{"shift", []string{"x * 2", "x << 1"}, []string{"x * 2 = x << 1"}},
		// The right side's own left sides are for the next round.
		{"add-comm", []string{"x + y + z"}, []string{"x + y + z = z + (x + y)", "x + y = y + x", "z + (y + x) = x + y + z", "no x + (y + z)"}},
		{"sub-add", []string{"x - y - z"}, []string{"x - y - z = (x - y) + -z", "x - y - z = x + -y + -z"}},
		{"twice", []string{"x + x + (x + x)"}, []string{"x + x + (x + x) = (x + x) * 2", "x * 2 * 2 = (x + x) * 2", "no x * 4"}},
	} {
		says(t, rounded(t, bits(c.rule), c.lines...), c.want...)
	}
	// Where all is there already nothing changes.
	for _, line := range []string{"x + y = y + x", "x + x", "x & x = x"} {
		p := told(t, line)
		q, _, _ := held(t, p, bits("add-comm", "and-self"))
		is(t, q, drawing(p))
	}
}

// TestSameNodes: two matches bring the same nodes, which are there once.
func TestSameNodes(t *testing.T) {
	q := rounded(t, bits("sub-add"), "x - y", "z - y")
	says(t, q, "x - y = x + -y", "z - y = z + -y", "x - y # z - y")
	if n, _ := picture.Nodes(q); n != 8 || len(q.Classes) != 6 {
		t.Error(drawing(q))
	}
	q = rounded(t, bits("spread"), "x * (y + z)", "x * (w + y)", "x * (y + z) - x * y")
	says(t, q, "x * (y + z) = x * y + x * z", "x * (w + y) = x * w + x * y")
	// The whole of the right side, and so the left ones are one, too.
	q = rounded(t, bits("add-comm", "or-self", "and-self"), "x & x", "x | x", "y + x = z", "x + y = w")
	says(t, q, "x & x = x | x", "z = w", "x # y")
	q = rounded(t, bits("mul-zero", "sub-self", "xor-self"), "x * 0", "y - y", "z ^ z")
	says(t, q, "x * 0 = y - y", "z ^ z = 0", "x # y", "x # 0")
}

// TestMatchesOfOneRound: what one match makes one another one names, in any row.
func TestMatchesOfOneRound(t *testing.T) {
	q := rounded(t, bits("add-zero", "spread"), "(x + 0) * (y + z)")
	says(t, q, "x + 0 = x", "(x + 0) * (y + z) = x * y + x * z", "x * y = (x + 0) * y", "x * (y + z) = (x + 0) * y + x * z")
	q = rounded(t, bits("mul-one", "add-zero", "sub-add"), "x * 1 - (x + 0)")
	says(t, q, "x * 1 - (x + 0) = x + -x", "x - x = x + -x", "no 0 - x")
	// Behind it sub-self stands, but that is a match of the next round.
	q = rounded(t, bits("mul-one", "add-zero", "sub-self"), "x * 1 - (x + 0)")
	says(t, q, "x - x", "x - x # 0")
	q, _, _ = held(t, q, bits("sub-self"))
	says(t, q, "x * 1 - (x + 0) = 0")
	// A tower: each storey's match names the one below.
	line := "x"
	for range 20 {
		line = "(" + line + " + 0)"
	}
	q = rounded(t, bits("add-zero"), line)
	is(t, q, "0: 1/0/[] size 1; 1: 2/0/x[] 5/0/[1 0] size 1; [1]")
	// By both matches of one class other classes are one.
	q = rounded(t, bits("add-zero", "mul-one"), "x + 0 = y * 1", "-x", "-y")
	says(t, q, "x = y", "-x = -y", "x + 0 = x")
}

// TestSeveralMatchesOfOneClass: of one rule and of several, all of them count.
func TestSeveralMatchesOfOneClass(t *testing.T) {
	q := rounded(t, bits("add-comm"), "w = x + y", "w = y + z", "w = z + x")
	says(t, q, "y + x = w", "z + y = w", "x + z = w", "no x + x")
	q = rounded(t, bits("sub-add", "sub-self", "xor-self", "eq-self"), "w = x - x", "w = y ^ y", "v = x == x")
	says(t, q, "w = 0", "w = x + -x", "v = 1", "v # w")
	q = rounded(t, bits("add-zero"), "w = x + 0", "w = y + 0", "-x + z", "-y + z")
	says(t, q, "w = x", "x = y", "-x + z = -y + z")
	q = rounded(t, allRules, "x = x + 0")
	says(t, q, "x + 0 = x", "0 + x = x")
}

// TestSidesInRounds: what is known of the classes ahead of the round decides.
func TestSidesInRounds(t *testing.T) {
	for _, c := range []struct {
		rules []string
		lines []string
		want  []string
	}{
		{[]string{"mul-zero"}, []string{"1 / x * 0"}, []string{"1 / x * 0 # 0"}},
		{[]string{"mul-zero"}, []string{"1 / x * 0", "x = 3"}, []string{"1 / x * 0 = 0", "1 / x = 0"}},
		{[]string{"unshift"}, []string{"x << y"}, []string{"no 1 << y"}},
		{[]string{"unshift"}, []string{"x << (1 + 2)"}, []string{"x << 3 = x * (1 << 3)", "1 << 3 = 8", "x * 8 = x << 1 + 2"}},
		{[]string{"if-true"}, []string{"z ? x : y", "2 ? x : 1 / y", "-3 ? 1 / x : y"}, []string{"z ? x : y # x", "2 ? x : 1 / y # x", "-3 ? 1 / x : y = 1 / x"}},
		{[]string{"if-false"}, []string{"1 - 1 ? x : y", "0 ? x : z"}, []string{"1 - 1 ? x : y # y", "0 ? x : z = z", "0 ? x : y = 1 - 1 ? x : y"}},
		// What the same round makes constant is known in the next one alone.
		{[]string{"sub-self", "div-self", "add-zero"}, []string{"(x + 0 - x) / (x + 0 - x)", "y + 0 = 3", "y / y"}, []string{"y = 3", "y / y = 1"}},
		{[]string{"div-self", "and-self"}, []string{"(y & 3) / (y & 3)", "y = 3 & 3"}, []string{"y & 3 = 3", "(y & 3) / (y & 3) = 1"}},
	} {
		says(t, rounded(t, bits(c.rules...), c.lines...), c.want...)
	}
}

// TestFoldedRounds: what comes out is folded, also where the round alone makes a class Const.
func TestFoldedRounds(t *testing.T) {
	q := rounded(t, bits("spread"), "2 * (3 + x)", "x = 4")
	says(t, q, "2 * (3 + x) = 14", "6 + 8 = 14", "3 + x = 7")
	q = rounded(t, bits("add-zero"), "x + 0 = 7", "x * 3")
	says(t, q, "x = 7", "x * 3 = 21")
	q = rounded(t, bits("sub-add"), "x - 5", "-5 + x", "-(5)")
	says(t, q, "x - 5 = x + -5", "x + -(5) = x - 5", "-5 # 5")
	// A literal makes classes one that bring what another round would have to look for.
	q = rounded(t, bits("sub-self"), "x - x + 3", "y / (x - x + 3) * 2", "y / 3 = 6")
	says(t, q, "x - x = 0", "0 + 3 = 3", "y / (x - x + 3) = 6", "6 * 2 = 12", "y / (x - x + 3) * 2 = 12")
	// The class has a literal ahead of what the round brings, and keeps to it.
	q = rounded(t, bits("sub-self"), "x - x + 3 = 8", "-(0 + 3)")
	says(t, q, "x - x = 0", "0 + 3 = 8", "3 # 8", "-8 = -(0 + 3)", "no -3")
}

// TestRootsOfRounds: they are the picture's, in their order, each by the class that now represents it.
func TestRootsOfRounds(t *testing.T) {
	p := told(t, "x * 1 + 0", "x", "y - y", "x * 1", "y", "1 + 1", "y - y")
	q, _, _ := held(t, p, bits("add-zero", "mul-one", "sub-self"))
	want := []string{"x", "x", "0", "x", "y", "2", "0"}
	if len(q.Roots) != len(want) {
		t.Fatal(q.Roots)
	}
	for i, s := range want {
		if q.Roots[i] != home(t, q, s) {
			t.Error(i, s, drawing(q))
		}
	}
	p.Roots = nil
	if q, _, _ = held(t, p, allRules); len(q.Roots) != 0 {
		t.Error(q.Roots)
	}
	for c := range p.Classes {
		p.Roots = []int{c, 0, c}
		held(t, p, allRules)
	}
}

// TestRoundsOfRandomPictures: all rules, each alone, and random masks, against both reckonings.
func TestRoundsOfRandomPictures(t *testing.T) {
	r := rand.New(rand.NewSource(1822))
	all := rules.All()
	var used [44]int
	for i := range 44 * 4 {
		p := lefts(t, r, all[i%44])
		if i%3 == 0 {
			p = chance(t, r, 2)
		}
		for _, mask := range []uint64{allRules, 1 << (i % 44), r.Uint64(), r.Uint64() & r.Uint64()} {
			held(t, p, mask)
		}
		matches, _ := rules.Matches(p, allRules)
		for _, m := range matches {
			used[m.Rule]++
		}
	}
	for k, n := range used {
		if n == 0 {
			t.Errorf("%s has no match", all[k].Name)
		}
	}
}

// TestRoundsInARow: rounds of what rounds answer, till one is not done.
func TestRoundsInARow(t *testing.T) {
	r := rand.New(rand.NewSource(1823))
	done, ended := 0, 0
	for i := range 44 {
		p := lefts(t, r, rules.All()[i])
		for range 4 {
			q, why, _ := held(t, p, allRules)
			if why != 0 {
				ended++
				break
			}
			p = q
			done++
		}
	}
	if done < 60 || ended == 0 {
		t.Error(done, ended)
	}
}

// environments is names with numbers at all ends, the same ones each time.
func environments() [][]api.Bind {
	r := rand.New(rand.NewSource(1824))
	list := [][]api.Bind{nil}
	for range 25 {
		var env []api.Bind
		for _, name := range []string{"x", "y"} {
			n := edges[r.Intn(len(edges))]
			if r.Intn(3) == 0 {
				n = int64(r.Uint64())
			}
			env = append(env, api.Bind{Name: name, N: n})
		}
		list = append(list, env)
	}
	return list
}

// meaning is what an expression comes to in all of them.
func meaning(e []api.Node, envs [][]api.Bind) string {
	s := ""
	for _, env := range envs {
		n, bad := eval.Eval(e, env)
		s += fmt.Sprint(n, "/", bad, " ")
	}
	return s
}

// TestOneMeaning: where each class has one meaning ahead of a round, it has the same behind it.
func TestOneMeaning(t *testing.T) {
	r := rand.New(rand.NewSource(1825))
	envs := environments()
	for i := range 44 {
		names, _ := pattern.Holes(rules.All()[i].Left)
		var parts []string
		for range names {
			parts = append(parts, []string{"x", "y", "2", "0", "x / y", "-1", "y % 3"}[r.Intn(7)])
		}
		left, _ := sides(t, rules.All()[i], parts...)
		p := pictureOf(t, left)
		for range 3 {
			q, why, bad := rounds.Round(p, allRules)
			if bad != api.OK {
				t.Fatal(bad)
			}
			for c := range p.Classes {
				e := least(t, p, c)
				k, _ := picture.Class(q, e)
				if meaning(e, envs) != meaning(least(t, q, k), envs) {
					t.Fatalf("class %d of %s behind a round: %s", c, drawing(p), drawing(q))
				}
			}
			for c := range q.Classes {
				want := meaning(least(t, q, c), envs)
				terms, _ := picture.Terms(q, c, 5)
				for e := range terms {
					if meaning(e, envs) != want {
						t.Fatalf("class %d of %s has several meanings", c, drawing(q))
					}
				}
			}
			if p = q; why != 0 || len(p.Classes) > 150 {
				break
			}
		}
	}
}
