package rounds_test

import (
	"fmt"
	"math/rand"
	"slices"
	"testing"

	"sorrel/api"
	"sorrel/graph"
	"sorrel/match"
	"sorrel/picture"
	"sorrel/rounds"
	"sorrel/rules"
)

// The ends of rounds: what is not done, since it would be too much.

// ends holds that a round of a picture ends so, by both words of it: where why is not 0, it is the picture.
func ends(t *testing.T, what string, p api.Picture, mask uint64, want int) api.Picture {
	t.Helper()
	q, why, _ := held(t, p, mask)
	if why != want {
		t.Errorf("%s, %b: %d, want %d", what, mask, why, want)
	}
	if want != 0 {
		is(t, q, drawing(p))
	}
	return q
}

// wide is a picture with all that another has, and so many classes and nodes in all. What comes to it is no constant, no rule matches it, and it has no root.
func wide(t *testing.T, p api.Picture, classes, nodes int) api.Picture {
	t.Helper()
	g, bad := graph.Of(p)
	if bad != api.OK {
		t.Fatal(bad)
	}
	own, _ := picture.Nodes(p)
	variables := classes - len(p.Classes)
	others := nodes - own - variables
	const base = 91
	for i := range variables {
		if i == base {
			for k := range others {
				build(t, g, fmt.Sprintf("f0 = f%d %% f%d", k/base, k%base))
			}
		}
		build(t, g, fmt.Sprintf("f%d = f%d", i, i))
	}
	q := drawn(t, g)
	if n, _ := picture.Nodes(q); n != nodes || len(q.Classes) != classes {
		t.Fatalf("%d nodes in %d classes, want %d in %d", n, len(q.Classes), nodes, classes)
	}
	return q
}

// crowd is a picture of so many variables and so many nodes of one operator over two of them, all in one class, or each in its own.
func crowd(variables, op, many int, apart bool) api.Picture {
	var p api.Picture
	for i := range variables {
		p.Classes = append(p.Classes, sized(1, vari("x"+string([]rune{'a' + rune(i/26), 'a' + rune(i%26)}))))
	}
	var nodes []api.Node
	for i := range many {
		nodes = append(nodes, do(op, i/variables, i%variables))
	}
	if !apart {
		p.Classes = append(p.Classes, sized(3, nodes...))
		return p
	}
	for _, n := range nodes {
		p.Classes = append(p.Classes, sized(3, n))
	}
	return p
}

// TestEndMatches: more than MaxMatches, in one class and in many, of one rule and of several.
func TestEndMatches(t *testing.T) {
	for _, apart := range []bool{false, true} {
		for many, want := range map[int]int{599: 0, 600: 0, 601: api.EndMatches, 1500: api.EndMatches} {
			p := crowd(40, api.OpAdd, many, apart)
			ends(t, "sums", p, bits("add-comm"), want)
			ends(t, "sums, and others", p, bits("add-comm", "add-zero", "mul-comm"), want)
			ends(t, "sums, not looked for", p, bits("mul-comm"), 0)
			ends(t, "no rule", p, 0, 0)
		}
	}
	for many, want := range map[int]int{585: 0, 586: api.EndMatches} {
		// Each 41st of 40 rows is a double.
		ends(t, "two rules", crowd(40, api.OpAdd, many, true), bits("add-comm", "twice"), want)
	}
	// What a round would do, if it was done, does not count.
	ends(t, "nothing new", crowd(25, api.OpAdd, 625, false), bits("add-comm"), api.EndMatches)
	ends(t, "nothing new", crowd(24, api.OpAdd, 576, false), bits("add-comm"), 0)
}

// TestEndMatchesOfFound: a chosen rule's left side stands too often, though its sides leave nothing of it.
func TestEndMatchesOfFound(t *testing.T) {
	for many, want := range map[int]int{api.MaxFound: 0, api.MaxFound + 1: api.EndMatches} {
		p := crowd(80, api.OpShl, many, false)
		left := rules.All()[16].Left
		if _, bad := match.Find(left, p); (bad == api.OK) != (want == 0) {
			t.Fatalf("%d shifts: %d", many, bad)
		}
		q := ends(t, "shifts", p, bits("unshift"), want)
		is(t, q, drawing(p))
		ends(t, "shifts, among others", p, bits("unshift", "add-comm", "morgan"), want)
		ends(t, "shifts, all others", p, allRules&^bits("unshift"), 0)
	}
}

// TestEndNodesOfFold: a literal more than there may be nodes.
func TestEndNodesOfFold(t *testing.T) {
	p := told(t, "1 + 2", "x")
	for nodes, want := range map[int]int{api.MaxNodes - 1: 0, api.MaxNodes: api.EndNodes} {
		for _, classes := range []int{1000, api.MaxClasses} {
			ends(t, fmt.Sprint(nodes, " nodes"), wide(t, p, classes, nodes), 0, want)
		}
	}
	// Two literals.
	p = told(t, "1 + 2", "x * (1 - 2)")
	for nodes, want := range map[int]int{api.MaxNodes - 2: 0, api.MaxNodes - 1: api.EndNodes, api.MaxNodes: api.EndNodes} {
		ends(t, fmt.Sprint(nodes, " nodes"), wide(t, p, 500, nodes), 0, want)
	}
	// The literal is there.
	for _, lines := range [][]string{{"1 + 2", "3"}, {"1 + 2 = 3"}, {"x"}} {
		ends(t, "the literal is there", wide(t, told(t, lines...), api.MaxClasses, api.MaxNodes), 0, 0)
	}
}

// TestFoldedSmallEnough: what is beyond the limits on the way does not count.
func TestFoldedSmallEnough(t *testing.T) {
	// The one literal that comes makes a node over it one with another.
	p := told(t, "y / (1 + 2)", "y / (9 - 6)", "-(y / (1 + 2))", "-(y / (9 - 6))")
	for nodes, want := range map[int]int{api.MaxNodes - 1: 0, api.MaxNodes: 0} {
		q := ends(t, fmt.Sprint(nodes, " nodes"), wide(t, p, 2000, nodes), 0, want)
		if n, _ := picture.Nodes(q); n != nodes-1 {
			t.Error(n)
		}
	}
	// Far beyond the limit ahead of the second time that literals are put in: 3 + z = 8 makes as many nodes one as literals have come.
	lines := []string{"3 + z = 8", "v = ((1 + 2) + z) * 2", "a = 16"}
	for k := range 20 {
		lines = append(lines, fmt.Sprintf("b / (v + %d)", 100+k), fmt.Sprintf("b / (a + %d)", 100+k), fmt.Sprintf("%d - 70", 100+k))
	}
	p = wide(t, told(t, lines...), 3000, api.MaxNodes)
	q, times := folds(t, p)
	if n, _ := picture.Nodes(q); n > api.MaxNodes || times < 2 {
		t.Error(n, times)
	}
	ends(t, "literals first", p, 0, 0)
}

// TestEndNodesOfRounds: by nodes and by classes, each just at its limit and one beyond.
func TestEndNodesOfRounds(t *testing.T) {
	// The round brings a class and two nodes.
	p := told(t, "a - b")
	for nodes, want := range map[int]int{api.MaxNodes - 2: 0, api.MaxNodes - 1: api.EndNodes, api.MaxNodes: api.EndNodes} {
		ends(t, fmt.Sprint(nodes, " nodes"), wide(t, p, 1500, nodes), bits("sub-add"), want)
		ends(t, fmt.Sprint(nodes, " nodes, no rule"), wide(t, p, 1500, nodes), bits("add-comm"), 0)
	}
	for classes, want := range map[int]int{api.MaxClasses - 1: 0, api.MaxClasses: api.EndNodes} {
		ends(t, fmt.Sprint(classes, " classes"), wide(t, p, classes, 6000), bits("sub-add"), want)
		ends(t, fmt.Sprint(classes, " classes, no rule"), wide(t, p, classes, 6000), bits("twice"), 0)
		// Both at once.
		ends(t, fmt.Sprint(classes, " classes"), wide(t, p, classes, api.MaxNodes-2), bits("sub-add"), want)
		ends(t, fmt.Sprint(classes, " classes"), wide(t, p, classes, api.MaxNodes-1), bits("sub-add"), api.EndNodes)
	}
	// A node alone.
	p = told(t, "a + b")
	for nodes, want := range map[int]int{api.MaxNodes - 1: 0, api.MaxNodes: api.EndNodes} {
		ends(t, fmt.Sprint(nodes, " nodes"), wide(t, p, api.MaxClasses, nodes), bits("add-comm"), want)
	}
	// Nothing that is not there.
	p = told(t, "a - b = c", "c = a + -b", "a * 1 = a")
	ends(t, "all is there", wide(t, p, api.MaxClasses, api.MaxNodes), bits("sub-add", "mul-one"), 0)
	// More than a list of MaxMatches brings.
	ends(t, "600 differences", crowd(25, api.OpSub, 600, true), bits("sub-add"), 0)
	ends(t, "600 differences, 4000 classes", wide(t, crowd(25, api.OpSub, 600, true), 4071, 6000), bits("sub-add"), 0)
	ends(t, "600 differences, one more", wide(t, crowd(25, api.OpSub, 600, true), 4073, 6000), bits("sub-add"), api.EndNodes)
}

// TestRoundsSmallEnough: what the round brings is beyond the limits, but not what Fold makes of it, nor what follows from the other matches.
func TestRoundsSmallEnough(t *testing.T) {
	// The class that comes is a constant that has a class.
	full := func(nodes int, lines ...string) api.Picture { return wide(t, told(t, lines...), api.MaxClasses, nodes) }
	q := ends(t, "-(5) is -5", full(7000, "a - 5", "-5"), bits("sub-add"), 0)
	says(t, q, "a - 5 = a + -5", "-(5) = -5")
	ends(t, "-(5) is nothing yet", full(7000, "a - 5", "-4"), bits("sub-add"), api.EndNodes)
	// Its nodes are, too: a + -5 is there, so -(5) is all that comes.
	ends(t, "one node more", full(api.MaxNodes-1, "a - 5", "a + -5"), bits("sub-add"), 0)
	ends(t, "one node too much", full(api.MaxNodes, "a - 5", "a + -5"), bits("sub-add"), api.EndNodes)
	// Another match makes the class that comes one with another.
	q = ends(t, "b + 0 is b", full(7000, "a - (b + 0)", "-b"), bits("sub-add", "add-zero"), 0)
	says(t, q, "a - b = a + -b")
	ends(t, "b + 0 is not looked at", full(7000, "a - (b + 0)", "-b"), bits("sub-add"), api.EndNodes)
	// Hundreds of classes and nodes too many, in between: 500 differences by literals, whose negations are there.
	g := graph.New()
	for k := range 500 {
		build(t, g, fmt.Sprintf("a - %d", k+1), fmt.Sprintf("a + -%d", k+1))
	}
	p := drawn(t, g)
	q = ends(t, "500 differences", wide(t, p, api.MaxClasses, api.MaxNodes-500), bits("sub-add"), 0)
	if n, _ := picture.Nodes(q); n != api.MaxNodes || len(q.Classes) != api.MaxClasses-500 {
		t.Error(n, len(q.Classes))
	}
	ends(t, "500 differences, a node more", wide(t, p, api.MaxClasses, api.MaxNodes-499), bits("sub-add"), api.EndNodes)
}

// towers is a picture in which class 0 has a difference of itself and a class of some size: one of sums of two equal parts has 2^high - 1, one of sums that differ a node less.
func towers(a, y api.Node, high int, less bool) api.Picture {
	p := api.Picture{Classes: []api.Class{sized(1, a), sized(1, y), sized(2, do(api.OpNeg, 1)), sized(3, do(api.OpAdd, 1, 1))}}
	for k := 3; k <= high; k++ {
		last := len(p.Classes)
		p.Classes = append(p.Classes,
			sized(1<<k-2, do(api.OpAdd, last-1, last-2)),
			sized(1<<k-1, do(api.OpAdd, last-1, last-1)))
	}
	top := len(p.Classes) - 1
	if less {
		top--
	}
	p.Classes[0].Nodes = append(p.Classes[0].Nodes, do(api.OpSub, 0, top))
	p.Roots = []int{0, top}
	return p
}

// TestEndSize: a class of size MaxSize, and of one less.
func TestEndSize(t *testing.T) {
	a, y := vari("a"), vari("y")
	q := ends(t, "one less", towers(a, y, 30, true), bits("sub-add"), 0)
	if size := q.Classes[len(q.Classes)-1].Size; size != api.MaxSize-1 || len(q.Classes) != 61 {
		t.Error(size, len(q.Classes))
	}
	ends(t, "MaxSize", towers(a, y, 30, false), bits("sub-add"), api.EndSize)
	ends(t, "MaxSize, not looked for", towers(a, y, 30, false), bits("neg-neg"), 0)
	ends(t, "a half", towers(a, y, 29, false), bits("sub-add"), 0)
	// Other nodes of that class, which use the top, make nothing small.
	p := towers(a, y, 30, false)
	last := len(p.Classes) - 1
	p.Classes[1].Nodes = append(p.Classes[1].Nodes, do(api.OpMul, 0, last), do(api.OpMul, last, last))
	ends(t, "MaxSize, by the difference", p, bits("sub-add"), api.EndSize)
	ends(t, "no class comes", p, bits("mul-comm"), 0)
}

// TestSizesSmallEnough: what is a constant is small, and so is what another match makes small.
func TestSizesSmallEnough(t *testing.T) {
	q := ends(t, "constants", towers(lit(2), lit(3), 30, false), bits("sub-add"), 0)
	if slices.ContainsFunc(q.Classes, func(c api.Class) bool { return c.Size != 1 }) {
		t.Error(drawing(q))
	}
	// a is a product with 0, and so is 0, but the top is not made of it.
	const a, y = 1, 2
	p := behindZero(towers(vari("a"), vari("y"), 30, false))
	top := len(p.Classes) - 1
	p.Classes[a].Nodes = slices.Insert(p.Classes[a].Nodes, 2, do(api.OpMul, top, 0))
	ends(t, "the top is large", p, bits("sub-add"), api.EndSize)
	ends(t, "the top is large, a is 0", p, bits("sub-add", "mul-zero"), api.EndSize)
	// y is one, and all that the top is made of is 0 with it.
	p = behindZero(towers(vari("a"), vari("y"), 30, false))
	p.Classes[y].Nodes = append(p.Classes[y].Nodes, do(api.OpMul, top, 0))
	ends(t, "y is 0", p, bits("sub-add", "mul-zero"), 0)
	ends(t, "y is 0, not looked for", p, bits("sub-add"), api.EndSize)
}

// behindZero is a picture with the literal 0 ahead of all its classes.
func behindZero(p api.Picture) api.Picture {
	q := api.Picture{Classes: []api.Class{sized(1, lit(0))}}
	for _, c := range p.Classes {
		for _, n := range c.Nodes {
			for i := range n.Kids {
				n.Kids[i]++
			}
		}
		q.Classes = append(q.Classes, c)
	}
	for _, root := range p.Roots {
		q.Roots = append(q.Roots, root+1)
	}
	return q
}

// TestWhichEnd: matches count ahead of nodes, nodes ahead of size.
func TestWhichEnd(t *testing.T) {
	p := towers(vari("a"), vari("y"), 30, false)
	ends(t, "size alone", wide(t, p, api.MaxClasses-1, api.MaxNodes-2), bits("sub-add"), api.EndSize)
	ends(t, "size and classes", wide(t, p, api.MaxClasses, 6000), bits("sub-add"), api.EndNodes)
	ends(t, "size and nodes", wide(t, p, 1000, api.MaxNodes-1), bits("sub-add"), api.EndNodes)
	g, _ := graph.Of(p)
	for k := range 601 {
		build(t, g, fmt.Sprintf("g%d * g%d", k/25, k%25))
	}
	q := drawn(t, g)
	ends(t, "matches and size", q, bits("sub-add", "mul-comm"), api.EndMatches)
	ends(t, "matches, size and nodes", wide(t, q, api.MaxClasses, api.MaxNodes), bits("sub-add", "mul-comm"), api.EndMatches)
	ends(t, "matches and nodes", wide(t, told(t, "a - b"), 2000, api.MaxNodes), bits("sub-add"), api.EndNodes)
}

// TestLargePictures: with very many classes and nodes all reckonings agree.
func TestLargePictures(t *testing.T) {
	r := rand.New(rand.NewSource(1831))
	for range 3 {
		g := graph.New()
		for k := range 1500 {
			build(t, g, fmt.Sprintf("(v%d %c %d) %c v%d", r.Intn(200), "/%<="[r.Intn(3)], k%20, "/%<"[r.Intn(3)], r.Intn(200)))
		}
		for range 150 {
			build(t, g, fmt.Sprintf("v%d = v%d + 0", r.Intn(200), r.Intn(200)), fmt.Sprintf("v%d = %d * 1", r.Intn(200), r.Intn(5)))
		}
		p := drawn(t, g)
		q, why, _ := held(t, p, bits("add-zero", "mul-one", "rem-one", "div-one", "lt-self", "add-comm"))
		if why != 0 || len(q.Classes) == len(p.Classes) {
			t.Error(why, len(q.Classes))
		}
	}
}

// TestEndsAreCopies: where a round is not done, the answer is the picture, and no part of its memory.
func TestEndsAreCopies(t *testing.T) {
	for what, p := range map[int]api.Picture{
		api.EndMatches: crowd(40, api.OpAdd, 601, true),
		api.EndNodes:   wide(t, told(t, "a - b", "1 + 2"), api.MaxClasses, api.MaxNodes),
		api.EndSize:    towers(vari("a"), vari("y"), 30, false),
	} {
		p.Roots = []int{3, 1, 3}
		was := drawing(p)
		q, why, _ := rounds.Round(p, bits("add-comm", "sub-add"))
		if why != what {
			t.Fatal(why, what)
		}
		scribble(q)
		is(t, p, was)
		q, why, _ = rounds.Round(p, bits("add-comm", "sub-add"))
		is(t, q, was)
		scribble(p)
		is(t, q, was)
		if why != what {
			t.Fatal(why, what)
		}
	}
	p := wide(t, told(t, "1 + 2"), api.MaxClasses, api.MaxNodes)
	was := drawing(p)
	q, why, _ := rounds.Fold(p)
	scribble(p)
	is(t, q, was)
	if why != api.EndNodes {
		t.Error(why)
	}
}
