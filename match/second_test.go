package match_test

import (
	"fmt"
	"math/rand"
	"slices"
	"strings"
	"testing"

	"sorrel/api"
	"sorrel/expr"
	"sorrel/graph"
	"sorrel/machine"
	"sorrel/match"
	"sorrel/parse"
	"sorrel/pattern"
)

// The second reckoning, by the chapter's words: all classes are tried in all holes, and a pattern stands where its nodes are, from its parts on.

// arities is how many parts an operator has, by its number.
var arities = []int{0, 0, 0, 1, 1, 2, 2, 2, 2, 2, 2, 2, 2, 2, 2, 2, 2, 3}

// key is a node with other Kids.
type key struct {
	op   int
	n    int64
	name string
	kids [3]int
}

// keyOf is the key of a node whose Kids are numbers of what is in a list.
func keyOf(n api.Node, list []int) key {
	k := key{op: n.Op, n: n.N, name: n.Name}
	for i, kid := range n.Kids {
		k.kids[i] = list[kid]
	}
	return k
}

// homes is the class of each node of a picture.
func homes(p api.Picture) map[key]int {
	all, same := map[key]int{}, []int{}
	for c := range p.Classes {
		same = append(same, c)
	}
	for c, class := range p.Classes {
		for _, n := range class.Nodes {
			all[keyOf(n, same)] = c
		}
	}
	return all
}

// standsAt is the class at which a pattern stands with classes for its holes, or none.
func standsAt(pat []api.Node, names []string, with []int, homes map[key]int) int {
	var room [api.MaxPattern]int
	at := room[:len(pat)]
	for i, n := range pat {
		if n.Op == api.OpHole {
			at[i] = with[slices.Index(names, n.Name)]
			continue
		}
		home, there := homes[keyOf(n, at)]
		if !there {
			return none
		}
		at[i] = home
	}
	return at[len(pat)-1]
}

const none = -1

// namesOf is the names of a pattern's holes, in the order in which they first stand.
func namesOf(pat []api.Node) []string {
	var names []string
	for _, n := range pat {
		if n.Op == api.OpHole && !slices.Contains(names, n.Name) {
			names = append(names, n.Name)
		}
	}
	return names
}

// each calls a function with all lists of so many numbers below a limit, in order.
func each(many, below int, visit func(with []int)) {
	with := make([]int, many)
	var try func(at int)
	try = func(at int) {
		if at == many {
			visit(with)
			return
		}
		for c := range below {
			with[at] = c
			try(at + 1)
		}
	}
	try(0)
}

// standing is all with which a pattern stands in a picture: for each class the lists, in order.
func standing(pat []api.Node, p api.Picture) [][][]int {
	all, names := homes(p), namesOf(pat)
	found := make([][][]int, len(p.Classes))
	each(len(names), len(p.Classes), func(with []int) {
		if c := standsAt(pat, names, with, all); c != none {
			found[c] = append(found[c], slices.Clone(with))
		}
	})
	return found
}

// follower follows the ways in which a pattern can stand at a class, node by node from the whole on, one by one.
type follower struct {
	pat   []api.Node
	p     api.Picture
	names []string
	found [][]int
	steps int // that are left to be done
}

// follow goes on with the pattern's node at a place, where it is known at which class all from there on stand.
func (f *follower) follow(place int, at, holes []int) {
	if f.steps--; f.steps < 0 {
		return
	}
	if place < 0 {
		f.found = append(f.found, slices.Clone(holes))
		return
	}
	n, at, holes := f.pat[place], slices.Clone(at), slices.Clone(holes)
	if n.Op == api.OpHole {
		number := slices.Index(f.names, n.Name)
		if holes[number] == none || holes[number] == at[place] {
			holes[number] = at[place]
			f.follow(place-1, at, holes)
		}
		return
	}
	for _, m := range f.p.Classes[at[place]].Nodes {
		if m.Op != n.Op || m.N != n.N || m.Name != n.Name {
			continue
		}
		for i, kid := range n.Kids {
			at[kid] = m.Kids[i]
		}
		f.follow(place-1, at, holes)
	}
}

// followed is the lists of a pattern at a class, in order; false, if there are too many ways to follow them all.
func followed(pat []api.Node, p api.Picture, class int) ([][]int, bool) {
	f := follower{pat: pat, p: p, names: namesOf(pat), steps: 150000}
	at := make([]int, len(pat))
	at[len(pat)-1] = class
	f.follow(len(pat)-1, at, slices.Repeat([]int{none}, len(f.names)))
	slices.SortFunc(f.found, slices.Compare)
	return f.found, f.steps >= 0
}

// held holds At and Find, at all classes of a picture, against the second reckoning, and against the program of the pattern; it tells how many matches there are.
func held(t *testing.T, pat []api.Node, p api.Picture) int {
	t.Helper()
	prog, _ := machine.Compile(pat)
	var all []api.Match
	for c, want := range standing(pat, p) {
		finds(t, pat, p, c, written(want))
		if l, bad := machine.Run(prog, len(namesOf(pat)), p, c); bad != api.OK || written(l) != written(want) {
			t.Fatalf("the reckonings do not agree: %v, %d, %s", l, bad, written(want))
		}
		for _, holes := range want {
			all = append(all, api.Match{Class: c, Holes: holes})
		}
	}
	findsAll(t, pat, p, all)
	return len(all)
}

// heldClass holds Class, for all lists of holes, against the second reckoning.
func heldClass(t *testing.T, pat []api.Node, p api.Picture) {
	t.Helper()
	all, names := homes(p), namesOf(pat)
	each(len(names), len(p.Classes), func(with []int) {
		located(t, pat, p, with, standsAt(pat, names, with, all))
	})
}

// written is lists, written out.
func written(l [][]int) string {
	if len(l) == 0 {
		return "[]"
	}
	return fmt.Sprint(l)
}

// finds asks At, where it has to answer lists.
func finds(t *testing.T, pat []api.Node, p api.Picture, class int, want string) {
	t.Helper()
	if l, bad := match.At(pat, p, class); bad != api.OK || written(l) != want {
		t.Fatalf("At(%v, %s, %d): %s, %d, want %s", pat, text(p), class, written(l[:min(len(l), 50)]), bad, want)
	}
}

// findsAll asks Find, where it has to answer matches.
func findsAll(t *testing.T, pat []api.Node, p api.Picture, want []api.Match) {
	t.Helper()
	l, bad := match.Find(pat, p)
	same := slices.EqualFunc(l, want, func(a, b api.Match) bool {
		return a.Rule == 0 && a.Class == b.Class && slices.Equal(a.Holes, b.Holes)
	})
	if bad != api.OK || !same {
		t.Fatalf("Find(%v, %s): %v, %d, want %v", pat, text(p), l[:min(len(l), 50)], bad, want[:min(len(want), 50)])
	}
}

// located asks Class, where it has to answer a class, or none.
func located(t *testing.T, pat []api.Node, p api.Picture, holes []int, want int) {
	t.Helper()
	c, bad := match.Class(pat, p, holes)
	if want != none && (c != want || bad != api.OK) || want == none && (c != 0 || bad != api.ErrNone) {
		t.Fatalf("Class(%v, %s, %v): %d, %d, want %d", pat, text(p), holes, c, bad, want)
	}
}

// fails asks At and Find, where both have to answer an error.
func fails(t *testing.T, what string, pat []api.Node, p api.Picture, class int, atWant, findWant api.Errno) {
	t.Helper()
	if l, bad := match.At(pat, p, class); bad != atWant || bad != api.OK && len(l) != 0 {
		t.Errorf("At, %s: %d lists, %d, want %d", what, len(l), bad, atWant)
	}
	if l, bad := match.Find(pat, p); bad != findWant || bad != api.OK && len(l) != 0 {
		t.Errorf("Find, %s: %d matches, %d, want %d", what, len(l), bad, findWant)
	}
}

// astray asks Class, where it has to answer an error.
func astray(t *testing.T, what string, pat []api.Node, p api.Picture, holes []int, want api.Errno) {
	t.Helper()
	if c, bad := match.Class(pat, p, holes); c != 0 || bad != want {
		t.Errorf("Class, %s, %v: %d, %d, want %d", what, holes, c, bad, want)
	}
}

// pat is the pattern that a text writes.
func pat(t *testing.T, s string) []api.Node {
	t.Helper()
	p, at, bad := parse.Pattern(s)
	if bad != api.OK {
		t.Fatalf("Pattern(%q): %d at %d", s, bad, at)
	}
	return p
}

// read is the expression that a text writes.
func read(t *testing.T, s string) []api.Node {
	t.Helper()
	e, at, bad := parse.Parse(s)
	if bad != api.OK {
		t.Fatalf("Parse(%q): %d at %d", s, bad, at)
	}
	return e
}

// told is the picture of expressions, each a root; = between two: they are merged.
func told(t *testing.T, lines ...string) api.Picture {
	t.Helper()
	g := graph.New()
	for _, s := range lines {
		bad := api.OK
		if a, b, merged := strings.Cut(s, " = "); merged {
			bad = g.Merge(read(t, a), read(t, b))
		} else {
			bad = g.Add(read(t, s))
		}
		if bad != api.OK {
			t.Fatalf("%q: %d", s, bad)
		}
	}
	return drawn(t, g)
}

// drawn is the picture of a graph.
func drawn(t *testing.T, g *graph.Graph) api.Picture {
	t.Helper()
	p, bad := g.Picture()
	if bad != api.OK {
		t.Fatalf("Picture: %d", bad)
	}
	return p
}

func lit(n int64) api.Node                    { return api.Node{Op: api.OpLit, N: n} }
func vari(s string) api.Node                  { return api.Node{Op: api.OpVar, Name: s} }
func hole(s string) api.Node                  { return api.Node{Op: api.OpHole, Name: s} }
func do(op int, kids ...int) api.Node         { return api.Node{Op: op, Kids: kids} }
func class(n ...api.Node) api.Class           { return sized(1, n...) }
func pic(cs ...api.Class) api.Picture         { return api.Picture{Classes: cs} }
func sized(size int, n ...api.Node) api.Class { return api.Class{Nodes: n, Size: size} }

// some leaves and operators: few, so that much is equal, and looked for where it is.
var (
	someLeaves = []api.Node{lit(0), lit(1), vari("a"), vari("b")}
	someOps    = []int{api.OpNeg, api.OpAdd, api.OpAdd, api.OpAdd, api.OpMul, api.OpIf}
)

// chanceTree is a random list of nodes that is at most so deep.
func chanceTree(r *rand.Rand, leaves []api.Node, deep int) []api.Node {
	if deep == 1 || r.Intn(5) == 0 {
		return []api.Node{leaves[r.Intn(len(leaves))]}
	}
	op := someOps[r.Intn(len(someOps))]
	var l []api.Node
	n := do(op)
	for range arities[op] {
		from := len(l)
		for _, part := range chanceTree(r, leaves, deep-1) {
			for k := range part.Kids {
				part.Kids[k] += from
			}
			l = append(l, part)
		}
		n.Kids = append(n.Kids, len(l)-1)
	}
	return append(l, n)
}

// chanceExpr is a random sound expression.
func chanceExpr(r *rand.Rand, deep int) []api.Node {
	for {
		if e := chanceTree(r, someLeaves, deep); expr.Check(e) == api.OK {
			return e
		}
	}
}

// chancePattern is a random sound pattern with a few holes, each of them often in several places.
func chancePattern(r *rand.Rand, deep, holes int) []api.Node {
	var leaves []api.Node
	for i := range holes {
		leaves = append(leaves, hole(string(rune('a'+i))), hole(string(rune('a'+i))))
	}
	leaves = append(leaves, someLeaves[r.Intn(4)])
	for {
		if p := chanceTree(r, leaves, 1+r.Intn(deep)); pattern.Check(p) == api.OK {
			return p
		}
	}
}

// goer goes one way down a picture, and makes a pattern of it.
type goer struct {
	r     *rand.Rand
	p     api.Picture
	many  int            // how many names of holes there are
	names map[int]string // the last name of each class
}

// chanceStanding is a random sound pattern that stands at a class of a picture.
func chanceStanding(r *rand.Rand, p api.Picture, class int) []api.Node {
	for {
		g := goer{r, p, 0, map[int]string{}}
		l := g.down(class, 2+r.Intn(4), r.Intn(4))
		if pattern.Check(l) == api.OK {
			return l
		}
	}
}

// down is the pattern for a class, which is at most so deep. Holes of one class have one name the less often, the more mixed they are.
func (g *goer) down(class, deep, mixed int) []api.Node {
	nodes := g.p.Classes[class].Nodes
	m := nodes[max(g.r.Intn(len(nodes)), g.r.Intn(len(nodes)))]
	if deep == 1 || g.r.Intn(6) == 0 || m.Op <= api.OpVar && g.r.Intn(3) > 0 {
		if g.names[class] == "" || g.r.Intn(4) < mixed && g.many < api.MaxHoles {
			g.names[class] = string(rune('a' + g.many))
			g.many++
		}
		return []api.Node{hole(g.names[class])}
	}
	var l []api.Node
	n := api.Node{Op: m.Op, N: m.N, Name: m.Name}
	for _, kid := range m.Kids {
		from := len(l)
		for _, part := range g.down(kid, deep-1, mixed) {
			for k := range part.Kids {
				part.Kids[k] += from
			}
			l = append(l, part)
		}
		n.Kids = append(n.Kids, len(l)-1)
	}
	return append(l, n)
}

// chance is a random sound picture with a few merges of anything with anything, so that classes have several nodes, and stand in cycles; or one of few classes with many nodes.
func chance(t *testing.T, r *rand.Rand, deep, merges int) api.Picture {
	t.Helper()
	if r.Intn(2) == 0 {
		return crowded(t, r, 2+3*merges)
	}
	g := graph.New()
	for range 1 + r.Intn(3) {
		g.Add(chanceExpr(r, deep))
	}
	for range merges {
		g.Merge(chanceExpr(r, deep), chanceExpr(r, deep))
	}
	return drawn(t, g)
}

// crowded is a random picture in which most nodes are of two classes, and have those and three others as parts.
func crowded(t *testing.T, r *rand.Rand, nodes int) api.Picture {
	t.Helper()
	g := graph.New()
	names := []string{"a", "b", "c", "s", "t"}
	for range nodes {
		op := someOps[r.Intn(len(someOps))]
		if r.Intn(4) > 0 {
			op = api.OpAdd
		}
		var parts [][]api.Node
		for range arities[op] {
			parts = append(parts, []api.Node{vari(names[r.Intn(5)])})
		}
		e, bad := expr.Make(op, 0, "", parts...)
		if bad != api.OK {
			t.Fatal(bad)
		}
		// What is there already would make two of the classes one.
		if there, _ := g.Has(e); !there || r.Intn(9) == 0 {
			g.Merge(e, []api.Node{vari(names[3+r.Intn(2)])})
		}
	}
	return drawn(t, g)
}

// text is a picture, written out, as far as it can be read.
func text(p api.Picture) string {
	var s strings.Builder
	for c, class := range p.Classes[:min(len(p.Classes), 30)] {
		fmt.Fprintf(&s, "%d:", c)
		for _, n := range class.Nodes[:min(len(class.Nodes), 30)] {
			fmt.Fprintf(&s, " %d/%d/%s%v", n.Op, n.N, n.Name, n.Kids)
		}
		fmt.Fprintf(&s, " size %d; ", class.Size)
	}
	return s.String() + fmt.Sprint(len(p.Classes), " classes")
}
