package machine_test

import (
	"fmt"
	"math/rand"
	"slices"
	"strings"
	"testing"

	"sorrel/api"
	"sorrel/expr"
	"sorrel/graph"
	"sorrel/runes"
)

// The second reckoning, by the chapter's words: a program is gone through command by command, a run is followed through each node by itself, and a pattern is tried with all classes in all its holes.

// arities is how many parts an operator has, by its number.
var arities = []int{0, 0, 0, 1, 1, 2, 2, 2, 2, 2, 2, 2, 2, 2, 2, 2, 2, 3}

// mayStand tells whether a sound expression can have a node with these.
func mayStand(op int, n int64, name string) bool {
	switch {
	case op < 1 || op > 17:
		return false
	case op == api.OpLit:
		return name == ""
	case op == api.OpVar:
		return n == 0 && runes.Name(name)
	}
	return n == 0 && name == ""
}

// soundFor tells whether a program is sound for so many holes.
func soundFor(prog []api.Cmd, holes int) bool {
	if holes < 0 || holes > 6 || len(prog) > 64 {
		return false
	}
	registers := map[int]bool{0: true}
	taken := map[int]int{}
	for _, c := range prog {
		zero := c.Op == 0 && c.N == 0 && c.Name == ""
		if c.Kind < 1 || c.Kind > 3 || !registers[c.R] || c.Kind != api.CClass && !zero {
			return false
		}
		if c.Kind == api.CClass && (!mayStand(c.Op, c.N, c.Name) || c.To != len(registers)) {
			return false
		}
		if c.Kind == api.CSame && !registers[c.To] {
			return false
		}
		if c.Kind == api.CClass {
			for range arities[c.Op] {
				registers[len(registers)] = true
			}
		}
		if c.Kind == api.CTake {
			taken[c.To]++
		}
	}
	for hole, times := range taken {
		if hole < 0 || hole >= holes || times != 1 {
			return false
		}
	}
	return len(taken) == holes
}

// follower follows the runs of a program through a picture, one by one.
type follower struct {
	prog  []api.Cmd
	p     api.Picture
	found map[string][]int
	steps int // that are left to be done
}

// follow carries the commands from a place on out.
func (f *follower) follow(at int, registers, holes []int) {
	if f.steps--; f.steps < 0 {
		return
	}
	if at == len(f.prog) {
		f.found[fmt.Sprint(holes)] = slices.Clone(holes)
		return
	}
	switch c := f.prog[at]; c.Kind {
	case api.CClass:
		for _, n := range f.p.Classes[registers[c.R]].Nodes {
			if n.Op == c.Op && n.N == c.N && n.Name == c.Name {
				f.follow(at+1, append(slices.Clone(registers), n.Kids...), holes)
			}
		}
	case api.CSame:
		if registers[c.R] == registers[c.To] {
			f.follow(at+1, registers, holes)
		}
	case api.CTake:
		holes = slices.Clone(holes)
		holes[c.To] = registers[c.R]
		f.follow(at+1, registers, holes)
	}
}

// inOrder is different lists in the order in which they have to be answered.
func inOrder(found map[string][]int) [][]int {
	var l [][]int
	for _, holes := range found {
		at := 0
		for at < len(l) && ahead(l[at], holes) {
			at++
		}
		l = slices.Insert(l, at, holes)
	}
	return l
}

func ahead(a, b []int) bool {
	for i := range a {
		if a[i] != b[i] {
			return a[i] < b[i]
		}
	}
	return false
}

// runs is what a sound program has to find; false, if there are too many runs to follow them all.
func runs(prog []api.Cmd, holes int, p api.Picture, class int) ([][]int, bool) {
	f := follower{prog: prog, p: p, found: map[string][]int{}, steps: 20000}
	f.follow(0, []int{class}, make([]int, holes))
	return inOrder(f.found), f.steps >= 0
}

// nodeText is a node with other Kids, written out.
func nodeText(n api.Node, kids []int) string { return fmt.Sprint(n.Op, n.N, n.Name, kids) }

// standing is, for each class, the lists with which a pattern stands there.
func standing(pat []api.Node, names []string, p api.Picture) []map[string][]int {
	homes := map[string]int{}
	found := make([]map[string][]int, len(p.Classes))
	for c, class := range p.Classes {
		found[c] = map[string][]int{}
		for _, n := range class.Nodes {
			homes[nodeText(n, n.Kids)] = c
		}
	}
	with := make([]int, len(names))
	var try func(at int)
	try = func(at int) {
		if at == len(with) {
			if c, there := standsAt(pat, names, with, homes); there {
				found[c][fmt.Sprint(with)] = slices.Clone(with)
			}
			return
		}
		for c := range p.Classes {
			with[at] = c
			try(at + 1)
		}
	}
	try(0)
	return found
}

// standsAt is the class at which a pattern stands with classes for its holes.
func standsAt(pat []api.Node, names []string, with []int, homes map[string]int) (int, bool) {
	at := make([]int, len(pat))
	for i, n := range pat {
		if n.Op == api.OpHole {
			at[i] = with[slices.Index(names, n.Name)]
			continue
		}
		kids := []int{}
		for _, kid := range n.Kids {
			kids = append(kids, at[kid])
		}
		home, there := homes[nodeText(n, kids)]
		if !there {
			return 0, false
		}
		at[i] = home
	}
	return at[len(pat)-1], true
}

func lit(n int64) api.Node                    { return api.Node{Op: api.OpLit, N: n} }
func vari(s string) api.Node                  { return api.Node{Op: api.OpVar, Name: s} }
func hole(s string) api.Node                  { return api.Node{Op: api.OpHole, Name: s} }
func do(op int, kids ...int) api.Node         { return api.Node{Op: op, Kids: kids} }
func class(n ...api.Node) api.Class           { return sized(1, n...) }
func pic(cs ...api.Class) api.Picture         { return api.Picture{Classes: cs} }
func sized(size int, n ...api.Node) api.Class { return api.Class{Nodes: n, Size: size} }

// some leaves and operators: few, so that much is equal, and looked for where it is.
var (
	someLeaves = []api.Node{lit(0), lit(1), vari("a"), vari("b")}
	someOps    = []int{api.OpNeg, api.OpAdd, api.OpAdd, api.OpAdd, api.OpMul, api.OpIf}
)

// chanceTree is a random expression or pattern that is at most so deep.
func chanceTree(r *rand.Rand, leaves []api.Node, deep int) []api.Node {
	if deep == 1 || r.Intn(5) == 0 {
		return []api.Node{leaves[r.Intn(len(leaves))]}
	}
	op := someOps[r.Intn(len(someOps))]
	var l []api.Node
	n := do(op)
	for range arities[op] {
		from := len(l)
		for _, part := range chanceTree(r, leaves, deep-1) {
			for k := range part.Kids {
				part.Kids[k] += from
			}
			l = append(l, part)
		}
		n.Kids = append(n.Kids, len(l)-1)
	}
	return append(l, n)
}

// chanceExpr is a random sound expression.
func chanceExpr(r *rand.Rand, deep int) []api.Node {
	for {
		if e := chanceTree(r, someLeaves, deep); expr.Check(e) == api.OK {
			return e
		}
	}
}

// chance is a random sound picture with a few merges of anything with anything, so that classes have several nodes, and stand in cycles; or one of few classes with many nodes.
func chance(t *testing.T, r *rand.Rand, deep, merges int) api.Picture {
	t.Helper()
	if r.Intn(2) == 0 {
		return crowded(t, r, 2+3*merges)
	}
	g := graph.New()
	for range 1 + r.Intn(3) {
		g.Add(chanceExpr(r, deep))
	}
	for range merges {
		g.Merge(chanceExpr(r, deep), chanceExpr(r, deep))
	}
	return drawn(t, g)
}

// crowded is a random picture in which most nodes are of two classes, and have those and three others as parts.
func crowded(t *testing.T, r *rand.Rand, nodes int) api.Picture {
	t.Helper()
	g := graph.New()
	names := []string{"a", "b", "c", "s", "t"}
	for range nodes {
		op := someOps[r.Intn(len(someOps))]
		if r.Intn(4) > 0 {
			op = api.OpAdd
		}
		var parts [][]api.Node
		for range arities[op] {
			parts = append(parts, []api.Node{vari(names[r.Intn(5)])})
		}
		e, bad := expr.Make(op, 0, "", parts...)
		if bad != api.OK {
			t.Fatal(bad)
		}
		// What is there already would make two of the classes one.
		if there, _ := g.Has(e); !there || r.Intn(9) == 0 {
			g.Merge(e, []api.Node{vari(names[3+r.Intn(2)])})
		}
	}
	return drawn(t, g)
}

// chanceClass is a random class of a picture, most often one with the most nodes.
func chanceClass(r *rand.Rand, p api.Picture) int {
	best := r.Intn(len(p.Classes))
	for c := range p.Classes {
		if r.Intn(6) > 0 && len(p.Classes[c].Nodes) > len(p.Classes[best].Nodes) {
			best = c
		}
	}
	return best
}

// drawn is the picture of a graph.
func drawn(t *testing.T, g *graph.Graph) api.Picture {
	t.Helper()
	p, bad := g.Picture()
	if bad != api.OK {
		t.Fatalf("Picture: %d", bad)
	}
	return p
}

// chanceProgram is a random sound program of some commands, most of which follow one run at a class of a picture, and the number of its holes.
func chanceProgram(r *rand.Rand, p api.Picture, at, commands int) ([]api.Cmd, int) {
	var prog []api.Cmd
	registers, holes := []int{at}, 0
	for len(prog) < commands {
		from := r.Intn(len(registers))
		if r.Intn(3) == 0 {
			from = len(registers) - 1
		}
		nodes := p.Classes[registers[from]].Nodes
		n := nodes[max(r.Intn(len(nodes)), r.Intn(len(nodes)))]
		if r.Intn(30) == 0 {
			n = p.Classes[r.Intn(len(p.Classes))].Nodes[0]
		}
		switch r.Intn(8) {
		case 0:
			to := r.Intn(len(registers))
			if registers[to] == registers[from] || r.Intn(20) == 0 {
				prog = append(prog, same(from, to))
			}
		case 1, 2, 3:
			if holes < api.MaxHoles && (from > 0 || r.Intn(4) == 0) {
				prog = append(prog, take(from, holes))
				holes++
			}
		default:
			prog = append(prog, api.Cmd{Kind: api.CClass, R: from, To: len(registers), Op: n.Op, N: n.N, Name: n.Name})
			registers = append(registers, n.Kids...)
		}
	}
	return shuffled(r, prog, holes), holes
}

// shuffled is a program whose holes have other numbers.
func shuffled(r *rand.Rand, prog []api.Cmd, holes int) []api.Cmd {
	numbers := r.Perm(holes)
	for i, c := range prog {
		if c.Kind == api.CTake {
			prog[i].To = numbers[c.To]
		}
	}
	return prog
}

func look(r, op, to int) api.Cmd { return api.Cmd{Kind: api.CClass, R: r, Op: op, To: to} }
func lookLit(r int, n int64, to int) api.Cmd {
	return api.Cmd{Kind: api.CClass, R: r, Op: api.OpLit, N: n, To: to}
}
func lookVar(r int, s string, to int) api.Cmd {
	return api.Cmd{Kind: api.CClass, R: r, Op: api.OpVar, Name: s, To: to}
}
func same(r, to int) api.Cmd { return api.Cmd{Kind: api.CSame, R: r, To: to} }
func take(r, to int) api.Cmd { return api.Cmd{Kind: api.CTake, R: r, To: to} }

// text is a picture, written out, as far as it can be read.
func text(p api.Picture) string {
	var s strings.Builder
	for c, class := range p.Classes[:min(len(p.Classes), 30)] {
		fmt.Fprintf(&s, "%d:", c)
		for _, n := range class.Nodes[:min(len(class.Nodes), 30)] {
			fmt.Fprintf(&s, " %d/%d/%s%v", n.Op, n.N, n.Name, n.Kids)
		}
		fmt.Fprintf(&s, " size %d; ", class.Size)
	}
	return s.String() + fmt.Sprint(len(p.Classes), " classes")
}
