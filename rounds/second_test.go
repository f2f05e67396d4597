package rounds_test

import (
	"fmt"
	"maps"
	"math"
	"math/rand"
	"slices"
	"strings"
	"testing"

	"sorrel/api"
	"sorrel/arith"
	"sorrel/expr"
	"sorrel/facts"
	"sorrel/graph"
	"sorrel/parse"
	"sorrel/pattern"
	"sorrel/picture"
	"sorrel/rounds"
	"sorrel/rules"
)

// The second reckoning is twofold. The slow one keeps nodes without any limit in a map, and goes through all of them again and again, till no two are the same in two classes; what it comes to is held against a picture class by class. The one by graphs, for small pictures, merges the classes' least expressions in a graph.

// spot is a node of the slow reckoning.
type spot struct {
	op   int
	n    int64
	name string
	kids [3]int
}

// slow is what it knows: the class of each node, what is to be one class, and what the picture's classes have become.
type slow struct {
	homes map[spot]int
	many  int
	pairs [][2]int
	now   []int
}

func slowOf(p api.Picture) *slow {
	s := &slow{homes: map[spot]int{}, many: len(p.Classes)}
	for c, class := range p.Classes {
		s.now = append(s.now, c)
		for _, n := range class.Nodes {
			s.homes[spotOf(n, func(kid int) int { return kid })] = c
		}
	}
	return s
}

// spotOf is a node with other kids.
func spotOf(n api.Node, other func(kid int) int) spot {
	k := spot{op: n.Op, n: n.N, name: n.Name}
	for i, kid := range n.Kids {
		k.kids[i] = other(kid)
	}
	return k
}

// put is the class of a node.
func (s *slow) put(k spot) int {
	if c, there := s.homes[k]; there {
		return c
	}
	s.homes[k] = s.many
	s.many++
	return s.many - 1
}

// close makes one what is to be.
func (s *slow) close() {
	for len(s.pairs) > 0 {
		up := make([]int, s.many)
		for c := range up {
			up[c] = c
		}
		top := func(c int) int {
			for up[c] != c {
				c = up[c]
			}
			return c
		}
		for _, pair := range s.pairs {
			a, b := top(pair[0]), top(pair[1])
			up[max(a, b)] = min(a, b)
		}
		s.pairs = nil
		homes := map[spot]int{}
		for k, c := range s.homes {
			for i := range arities[k.op] {
				k.kids[i] = top(k.kids[i])
			}
			if other, there := homes[k]; there {
				s.pairs = append(s.pairs, [2]int{other, top(c)})
			}
			homes[k] = top(c)
		}
		s.homes = homes
		for i, c := range s.now {
			s.now[i] = top(c)
		}
		s.pairs = slices.DeleteFunc(s.pairs, func(pair [2]int) bool { return pair[0] == pair[1] })
	}
}

// classes is how many there are.
func (s *slow) classes() int {
	all := map[int]bool{}
	for _, c := range s.homes {
		all[c] = true
	}
	return len(all)
}

// lay puts the right sides of all matches in.
func (s *slow) lay(matches []api.Match) {
	all := rules.All()
	for _, m := range matches {
		r := all[m.Rule]
		names, _ := pattern.Holes(r.Left)
		at := map[int]int{}
		for i, n := range r.Right {
			if n.Op == api.OpHole {
				at[i] = m.Holes[slices.Index(names, n.Name)]
			} else {
				at[i] = s.put(spotOf(n, func(kid int) int { return at[kid] }))
			}
		}
		s.pairs = append(s.pairs, [2]int{at[len(r.Right)-1], m.Class})
	}
	s.close()
}

// constants is the classes that are constants: each step looks at all nodes by what was known ahead of it.
func (s *slow) constants() map[int]int64 {
	known := map[int]int64{}
	for {
		given := map[int]int64{}
		for k, c := range s.homes {
			if _, is := known[c]; is || k.op == api.OpVar {
				continue
			}
			n, ok := k.number(known)
			if was, there := given[c]; ok && (!there || n < was) {
				given[c] = n
			}
		}
		if len(given) == 0 {
			return known
		}
		maps.Copy(known, given)
	}
}

// number is what a node gives its class.
func (k spot) number(known map[int]int64) (int64, bool) {
	if k.op == api.OpLit {
		return k.n, true
	}
	var list []int64
	for _, kid := range k.kids[:arities[k.op]] {
		n, is := known[kid]
		if !is {
			return 0, false
		}
		list = append(list, n)
	}
	n, bad := arith.Apply(k.op, list...)
	return n, bad == api.OK
}

// fold puts the literals in; it answers how often that changed something.
func (s *slow) fold() int {
	for times := 0; ; times++ {
		classes, nodes := s.classes(), len(s.homes)
		for c, n := range s.constants() {
			s.pairs = append(s.pairs, [2]int{c, s.put(spot{op: api.OpLit, n: n})})
		}
		s.close()
		if s.classes() == classes && len(s.homes) == nodes {
			return times
		}
	}
}

// sizes is the size of each class's least expression.
func (s *slow) sizes() map[int]int {
	sizes := map[int]int{}
	for falls := true; falls; {
		falls = false
		for k, c := range s.homes {
			size, all := 1, true
			for _, kid := range k.kids[:arities[k.op]] {
				all = all && sizes[kid] > 0
				size += sizes[kid]
			}
			if all && (sizes[c] == 0 || size < sizes[c]) {
				sizes[c], falls = size, true
			}
		}
	}
	return sizes
}

// why is why it is no picture, or 0.
func (s *slow) why() int {
	if s.classes() > api.MaxClasses || len(s.homes) > api.MaxNodes {
		return api.EndNodes
	}
	for _, size := range s.sizes() {
		if size >= api.MaxSize {
			return api.EndSize
		}
	}
	return 0
}

// differs tells in what a picture differs from this; it is "", if that is in nothing.
func (s *slow) differs(p, q api.Picture) string {
	nodes, bad := picture.Nodes(q)
	if bad != api.OK || nodes != len(s.homes) || len(q.Classes) != s.classes() {
		return fmt.Sprintf("%d: %d nodes in %d classes, want %d in %d", bad, nodes, len(q.Classes), len(s.homes), s.classes())
	}
	at, taken := make([]int, len(q.Classes)), map[int]bool{}
	for c, class := range q.Classes {
		// The parts of the least expression are of classes ahead.
		i := slices.IndexFunc(class.Nodes, func(n api.Node) bool {
			return !slices.ContainsFunc(n.Kids, func(kid int) bool { return kid >= c })
		})
		home, there := s.homes[spotOf(class.Nodes[i], func(kid int) int { return at[kid] })]
		if !there || taken[home] {
			return fmt.Sprint("class ", c)
		}
		at[c], taken[home] = home, true
	}
	for c, class := range q.Classes {
		for _, n := range class.Nodes {
			if home, there := s.homes[spotOf(n, func(kid int) int { return at[kid] })]; !there || home != at[c] {
				return fmt.Sprint("a node of class ", c)
			}
		}
	}
	if len(p.Roots) != len(q.Roots) {
		return "the roots"
	}
	for i, root := range q.Roots {
		if at[root] != s.now[p.Roots[i]] {
			return fmt.Sprint("root ", i)
		}
	}
	return ""
}

// slowly is what the slow reckoning makes of a picture, why that is none, and how often literals were put in.
func slowly(p api.Picture, mask uint64) (s *slow, why, times int) {
	matches, bad := rules.Matches(p, mask)
	if bad == api.ErrLarge {
		return nil, api.EndMatches, 0
	}
	s = slowOf(p)
	s.lay(matches)
	times = s.fold()
	return s, s.why(), times
}

// graphed is what the reckoning by graphs makes of a picture.
func graphed(t *testing.T, p api.Picture, mask uint64) api.Picture {
	t.Helper()
	g, _ := graph.Of(p)
	merge := func(a, b []api.Node) {
		if bad := g.Merge(a, b); bad != api.OK {
			t.Fatalf("Merge(%v, %v): %d", a, b, bad)
		}
	}
	matches, _ := rules.Matches(p, mask)
	all := rules.All()
	leasts := map[int][]api.Node{}
	of := func(class int) []api.Node {
		if leasts[class] == nil {
			leasts[class] = least(t, p, class)
		}
		return leasts[class]
	}
	for _, m := range matches {
		r := all[m.Rule]
		names, _ := pattern.Holes(r.Left)
		own, _ := pattern.Holes(r.Right)
		var parts [][]api.Node
		for _, name := range own {
			parts = append(parts, of(m.Holes[slices.Index(names, name)]))
		}
		right, _ := pattern.Fill(r.Right, parts)
		merge(right, of(m.Class))
	}
	for q := drawn(t, g); ; {
		known, _ := facts.Classes(q)
		for c, f := range known {
			if f.Const {
				merge(least(t, q, c), []api.Node{lit(f.N)})
			}
		}
		was := drawing(q)
		if q = drawn(t, g); drawing(q) == was {
			return q
		}
	}
}

// held holds a round, and a fold of what it answers, against both reckonings, the second one only where the least expressions are small; it answers what Round answers, and how often literals were put in.
func held(t *testing.T, p api.Picture, mask uint64) (q api.Picture, why, times int) {
	t.Helper()
	q, why, bad := rounds.Round(p, mask)
	s, want, times := slowly(p, mask)
	if why != want || bad != api.OK {
		t.Fatalf("Round(%.3000s, %b): %d, %d, want %d", drawing(p), mask, why, bad, want)
	}
	if inside, bad := picture.Inside(p, q); !inside || bad != api.OK {
		t.Fatalf("Round(%.3000s, %b): %.3000s: %v, %d", drawing(p), mask, drawing(q), inside, bad)
	}
	if why != 0 {
		is(t, q, drawing(p))
		return q, why, times
	}
	if what := s.differs(p, q); what != "" {
		t.Fatalf("Round(%.3000s, %b): %.3000s: %s", drawing(p), mask, drawing(q), what)
	}
	if graphs(p) {
		is(t, q, drawing(graphed(t, p, mask)))
	}
	folded(t, q)
	return q, why, times
}

// graphs tells whether a picture and all its least expressions are small enough for graphs.
func graphs(p api.Picture) bool {
	nodes, _ := picture.Nodes(p)
	return nodes < 1000 && len(p.Classes) < 100 && !slices.ContainsFunc(p.Classes, func(c api.Class) bool { return c.Size > 12 })
}

// folded holds that each constant of a picture has its literal, and that folding changes nothing, nor does a round without rules.
func folded(t *testing.T, q api.Picture) {
	t.Helper()
	known, _ := facts.Classes(q)
	for c, f := range known {
		has := func(n api.Node) bool { return n.Op == api.OpLit && n.N == f.N }
		if f.Const && !slices.ContainsFunc(q.Classes[c].Nodes, has) {
			t.Fatalf("class %d of %.3000s has no %d", c, drawing(q), f.N)
		}
	}
	r, why, bad := rounds.Fold(q)
	if drawing(r) != drawing(q) || why != 0 || bad != api.OK {
		t.Fatalf("Fold(%.3000s): %.3000s, %d, %d", drawing(q), drawing(r), why, bad)
	}
	r, why, bad = rounds.Round(q, 0)
	if drawing(r) != drawing(q) || why != 0 || bad != api.OK {
		t.Fatalf("Round(%.3000s, 0): %.3000s, %d, %d", drawing(q), drawing(r), why, bad)
	}
}

// is holds that a picture is the one that is drawn so.
func is(t *testing.T, q api.Picture, want string) {
	t.Helper()
	if s := drawing(q); s != want {
		t.Fatalf("%.3000s, want %.3000s", s, want)
	}
}

// folds is Fold of a picture, held as a round without rules is, and how often literals were put in.
func folds(t *testing.T, p api.Picture) (api.Picture, int) {
	t.Helper()
	q, why, bad := rounds.Fold(p)
	r, want, times := held(t, p, 0)
	if drawing(q) != drawing(r) || why != want || bad != api.OK {
		t.Fatalf("Fold(%.3000s): %.3000s, %d, %d, want %.3000s, %d", drawing(p), drawing(q), why, bad, drawing(r), want)
	}
	return q, times
}

const allRules = 1<<44 - 1

// bits is the mask of rules by their names.
func bits(names ...string) uint64 {
	mask, bad := rules.Mask(names...)
	if bad != api.OK {
		panic(fmt.Sprint(names))
	}
	return mask
}

// edges is numbers at their ends, and others that are something to a rule.
var edges = []int64{0, 1, -1, 2, 3, -7, 63, 64, math.MinInt64, math.MaxInt64}

// arities is how many parts an operator has, by its number.
var arities = []int{0, 0, 0, 1, 1, 2, 2, 2, 2, 2, 2, 2, 2, 2, 2, 2, 2, 3}

func lit(n int64) api.Node                    { return api.Node{Op: api.OpLit, N: n} }
func vari(s string) api.Node                  { return api.Node{Op: api.OpVar, Name: s} }
func do(op int, kids ...int) api.Node         { return api.Node{Op: op, Kids: kids} }
func sized(size int, n ...api.Node) api.Class { return api.Class{Nodes: n, Size: size} }

// chanceExpr is a random sound expression over some leaves.
func chanceExpr(r *rand.Rand, leaves []api.Node, deep int) []api.Node {
	if deep == 1 || r.Intn(4) == 0 {
		return []api.Node{leaves[r.Intn(len(leaves))]}
	}
	op := api.OpNeg + r.Intn(api.OpIf-api.OpNeg+1)
	var parts [][]api.Node
	for range arities[op] {
		parts = append(parts, chanceExpr(r, leaves, deep-1))
	}
	e, _ := expr.Make(op, 0, "", parts...)
	return e
}

// chance is a random picture, with merges of anything with anything: so classes are given several numbers, and stand in cycles.
func chance(t *testing.T, r *rand.Rand, merges int) api.Picture {
	t.Helper()
	leaves := []api.Node{lit(0), lit(1), lit(2), lit(-1), vari("x"), vari("y")}
	g := graph.New()
	for range 1 + r.Intn(3) {
		g.Add(chanceExpr(r, leaves, 3))
	}
	for range merges {
		g.Merge(chanceExpr(r, leaves, 1+r.Intn(2)), chanceExpr(r, leaves, 3))
	}
	return drawn(t, g)
}

// lefts is a random picture in which the left sides of a rule, and of some others, stand over few leaves.
func lefts(t *testing.T, r *rand.Rand, rule api.Rule) api.Picture {
	t.Helper()
	leaves := []string{"0", "1", "2", "-1", "x", "y", "x / y", "x / y", "y % x", "7 - 7", "2 - 3"}
	g := graph.New()
	all := rules.All()
	for range 1 + r.Intn(3) {
		var parts [][]api.Node
		names, _ := pattern.Holes(rule.Left)
		for range names {
			parts = append(parts, read(t, leaves[r.Intn(len(leaves))]))
		}
		e, bad := pattern.Fill(rule.Left, parts)
		if bad != api.OK || g.Add(e) != api.OK {
			t.Fatal(rule.Name, bad)
		}
		if r.Intn(3) == 0 {
			g.Merge(e, read(t, leaves[r.Intn(len(leaves))]))
		}
		rule = all[r.Intn(len(all))]
	}
	return drawn(t, g)
}

// read is the expression that a text writes.
func read(t *testing.T, s string) []api.Node {
	t.Helper()
	e, at, bad := parse.Parse(s)
	if bad != api.OK {
		t.Fatalf("Parse(%q): %d at %d", s, bad, at)
	}
	return e
}

// build puts lines into a graph: an expression, which is a root; with = between two: they are merged.
func build(t *testing.T, g *graph.Graph, lines ...string) {
	t.Helper()
	for _, s := range lines {
		a, b, merged := strings.Cut(s, " = ")
		bad := api.OK
		if merged {
			bad = g.Merge(read(t, a), read(t, b))
		} else {
			bad = g.Add(read(t, a))
		}
		if bad != api.OK {
			t.Fatalf("%s: %d", s, bad)
		}
	}
}

// told is the picture of lines.
func told(t *testing.T, lines ...string) api.Picture {
	t.Helper()
	g := graph.New()
	build(t, g, lines...)
	return drawn(t, g)
}

// drawn is the picture of a graph.
func drawn(t *testing.T, g *graph.Graph) api.Picture {
	t.Helper()
	p, bad := g.Picture()
	if bad != api.OK {
		t.Fatalf("Picture: %d", bad)
	}
	return p
}

// least is the least expression of a class.
func least(t *testing.T, p api.Picture, class int) []api.Node {
	t.Helper()
	e, bad := picture.Least(p, class)
	if bad != api.OK {
		t.Fatalf("Least(%.3000s, %d): %d", drawing(p), class, bad)
	}
	return e
}

// home is the class of an expression; -1, if it is not represented.
func home(t *testing.T, p api.Picture, s string) int {
	t.Helper()
	c, bad := picture.Class(p, read(t, s))
	if bad == api.ErrNone {
		return -1
	}
	if bad != api.OK {
		t.Fatalf("%s: %d", s, bad)
	}
	return c
}

// says holds that lines are so in a picture: "a = b", both are represented and equal; "a # b", both are represented, and not equal; "a", it is represented; "no a", it is not.
func says(t *testing.T, p api.Picture, lines ...string) {
	t.Helper()
	for _, s := range lines {
		ok := false
		if a, b, two := strings.Cut(s, " = "); two {
			ok = home(t, p, a) == home(t, p, b) && home(t, p, a) >= 0
		} else if a, b, two := strings.Cut(s, " # "); two {
			ok = home(t, p, a) != home(t, p, b) && home(t, p, a) >= 0 && home(t, p, b) >= 0
		} else if a, no := strings.CutPrefix(s, "no "); no {
			ok = home(t, p, a) < 0
		} else {
			ok = home(t, p, s) >= 0
		}
		if !ok {
			t.Fatalf("it is not so that %s: %.3000s", s, drawing(p))
		}
	}
}

// drawing is a picture, written out.
func drawing(p api.Picture) string {
	var s strings.Builder
	for c, class := range p.Classes {
		fmt.Fprintf(&s, "%d:", c)
		for _, n := range class.Nodes {
			fmt.Fprintf(&s, " %d/%d/%s%v", n.Op, n.N, n.Name, n.Kids)
		}
		fmt.Fprintf(&s, " size %d; ", class.Size)
	}
	return s.String() + fmt.Sprint(p.Roots)
}
