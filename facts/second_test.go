package facts_test

import (
	"fmt"
	"math/rand"
	"slices"
	"strings"
	"testing"

	"sorrel/api"
	"sorrel/arith"
	"sorrel/eval"
	"sorrel/expr"
	"sorrel/graph"
	"sorrel/picture"
)

// The second reckoning: an expression's facts by what its parts come to where they have no variables; a picture's constants by what was known how many steps ago, and what is Total by all sets of classes that it could be.

func divides(op int) bool { return op == api.OpDiv || op == api.OpRem }

// comes is what an expression comes to in every environment, if it has no variables and does not trap.
func comes(e []api.Node) (int64, bool) {
	names, _ := expr.Vars(e)
	n, bad := eval.Eval(e, nil)
	return n, len(names) == 0 && bad == api.OK
}

// factOf is what has to be known of a sound expression: it can trap nowhere but in its divisions.
func factOf(e []api.Node) api.Fact {
	f := api.Fact{Total: true}
	f.N, f.Const = comes(e)
	if !f.Const {
		f.N = 0
	}
	for _, n := range e {
		if divides(n.Op) {
			by, _ := expr.Part(e, n.Kids[1])
			number, ok := comes(by)
			f.Total = f.Total && ok && number != 0
		}
	}
	return f
}

// found is a number that is known from a step on.
type found struct {
	n    int64
	step int
}

// given is the number that a node gives by numbers that were known when so many steps had been done.
func given(n api.Node, known map[int]found, steps int) (int64, bool) {
	if n.Op == api.OpLit || n.Op == api.OpVar {
		return n.N, n.Op == api.OpLit
	}
	var numbers []int64
	for _, kid := range n.Kids {
		f, ok := known[kid]
		if !ok || f.step > steps {
			return 0, false
		}
		numbers = append(numbers, f.n)
	}
	number, bad := arith.Apply(n.Op, numbers...)
	return number, bad == api.OK
}

// constants is the classes of a sound picture that are constant, with the step in which each was given its number. Behind as many steps as there are classes none is given one any more.
func constants(p api.Picture) map[int]found {
	known := map[int]found{}
	for step := 1; step <= len(p.Classes); step++ {
		for c, class := range p.Classes {
			var numbers []int64
			for _, n := range class.Nodes {
				if number, ok := given(n, known, step-1); ok {
					numbers = append(numbers, number)
				}
			}
			if _, ok := known[c]; !ok && len(numbers) > 0 {
				known[c] = found{slices.Min(numbers), step}
			}
		}
	}
	return known
}

// quarrels tells whether a class is given two numbers, in one step or in several.
func quarrels(p api.Picture) bool {
	known := constants(p)
	for c, class := range p.Classes {
		for _, n := range class.Nodes {
			if number, ok := given(n, known, len(p.Classes)); ok && number != known[c].n {
				return true
			}
		}
	}
	return false
}

// sureIn tells whether a class has a node that makes it Total, if all Kids of a set are.
func sureIn(class api.Class, known map[int]found, in func(kid int) bool) bool {
	return slices.ContainsFunc(class.Nodes, func(n api.Node) bool {
		for _, kid := range n.Kids {
			if !in(kid) {
				return false
			}
		}
		return !divides(n.Op) || known[n.Kids[1]].n != 0
	})
}

// surest is the set of the classes that are Total, bit by bit: what all sets have in common that leave out no class which they make Total.
func surest(p api.Picture, known map[int]found) uint {
	least := uint(1)<<len(p.Classes) - 1
	for set := range least {
		closed := true
		for c, class := range p.Classes {
			in := func(kid int) bool { return set>>kid&1 == 1 }
			closed = closed && (in(c) || !sureIn(class, known, in))
		}
		if closed {
			least &= set
		}
	}
	return least
}

// factsOf is what has to be known of the classes of a sound and small picture.
func factsOf(p api.Picture) []api.Fact {
	known := constants(p)
	sure := surest(p, known)
	var list []api.Fact
	for c := range p.Classes {
		_, ok := known[c]
		list = append(list, api.Fact{Total: sure>>c&1 == 1, Const: ok, N: known[c].n})
	}
	return list
}

// leaves of random expressions: few, so that much is equal.
var leaves = []api.Node{lit(0), lit(1), lit(2), lit(-1), vari("a"), vari("b")}

var arities = []int{0, 0, 0, 1, 1, 2, 2, 2, 2, 2, 2, 2, 2, 2, 2, 2, 2, 3}

// chanceExpr is a random expression that is at most so deep; one operator in three divides.
func chanceExpr(r *rand.Rand, leaves []api.Node, deep int) []api.Node {
	if deep == 1 || r.Intn(4) == 0 {
		return []api.Node{leaves[r.Intn(len(leaves))]}
	}
	op := api.OpNeg + r.Intn(api.OpIf-api.OpNeg+1)
	if r.Intn(3) == 0 {
		op = api.OpDiv + r.Intn(2)
	}
	var parts [][]api.Node
	for range arities[op] {
		parts = append(parts, chanceExpr(r, leaves, deep-1))
	}
	e, bad := expr.Make(op, 0, "", parts...)
	if bad != api.OK {
		panic("parts that do not fit")
	}
	return e
}

// chance is a random sound picture with a few merges of anything with anything: so classes are given several numbers, and stand in cycles.
func chance(t *testing.T, r *rand.Rand, deep, merges int) api.Picture {
	t.Helper()
	g := graph.New()
	for range 1 + r.Intn(3) {
		g.Add(chanceExpr(r, leaves, deep))
	}
	for range merges {
		g.Merge(chanceExpr(r, leaves, deep), chanceExpr(r, leaves, deep))
	}
	return drawn(t, g)
}

// drawn is the picture of a graph.
func drawn(t *testing.T, g *graph.Graph) api.Picture {
	t.Helper()
	p, bad := g.Picture()
	if bad != api.OK {
		t.Fatalf("Picture: %d", bad)
	}
	return p
}

// home is the class of a picture that represents an expression.
func home(t *testing.T, p api.Picture, e []api.Node) int {
	t.Helper()
	c, bad := picture.Class(p, e)
	if bad != api.OK {
		t.Fatalf("Class(%s, %v): %d", text(p), e, bad)
	}
	return c
}

// text is a picture, written out, as far as it can be read.
func text(p api.Picture) string {
	var s strings.Builder
	for c, class := range p.Classes[:min(len(p.Classes), 30)] {
		fmt.Fprintf(&s, "%d:", c)
		for _, n := range class.Nodes[:min(len(class.Nodes), 30)] {
			fmt.Fprintf(&s, " %d/%d/%s%v", n.Op, n.N, n.Name, n.Kids)
		}
		fmt.Fprintf(&s, " size %d; ", class.Size)
	}
	return s.String() + fmt.Sprint(len(p.Classes), " classes")
}

// small tells whether a picture has few enough classes for all sets of them to be gone through.
func small(p api.Picture) bool { return len(p.Classes) <= 11 }
