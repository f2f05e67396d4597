package pattern_test

import (
	"fmt"
	"math/rand"
	"slices"
	"strings"

	"sorrel/api"
	"sorrel/runes"
)

// The second reckoning, on other ways than the program's: soundness by a stack, holes and filling on trees, and what fits by trying all parts of the expression in all holes.

// parts is how many parts an operator has; a hole is no operator, but has none either.
var parts = map[int]int{
	api.OpLit: 0, api.OpVar: 0, api.OpHole: 0, api.OpNeg: 1, api.OpNot: 1, api.OpIf: 3,
	api.OpAdd: 2, api.OpSub: 2, api.OpMul: 2, api.OpDiv: 2, api.OpRem: 2, api.OpAnd: 2, api.OpOr: 2, api.OpXor: 2, api.OpShl: 2, api.OpShr: 2, api.OpEq: 2, api.OpLt: 2,
}

// tree is an expression or a pattern, with its parts.
type tree struct {
	api.Node
	parts []tree
}

func lit(n int64) tree              { return tree{Node: api.Node{Op: api.OpLit, N: n}} }
func vari(s string) tree            { return tree{Node: api.Node{Op: api.OpVar, Name: s}} }
func hole(s string) tree            { return tree{Node: api.Node{Op: api.OpHole, Name: s}} }
func do(op int, parts ...tree) tree { return tree{api.Node{Op: op}, parts} }

// list writes a tree out in the order in which its nodes are finished, from a place on.
func (t tree) list(from int) []api.Node {
	var l []api.Node
	n := t.Node
	for _, p := range t.parts {
		l = append(l, p.list(from+len(l))...)
		n.Kids = append(n.Kids, from+len(l)-1)
	}
	return append(l, n)
}

func (t tree) nodes() []api.Node { return t.list(0) }

// all is every part of a tree, itself too, in the order in which they are finished.
func (t tree) all() []tree {
	var l []tree
	for _, p := range t.parts {
		l = append(l, p.all()...)
	}
	return append(l, t)
}

func (t tree) size() int { return len(t.all()) }

// names is the names of a tree's holes, as they first stand in the list of its nodes.
func (t tree) names() []string {
	var names []string
	for _, p := range t.all() {
		if p.Op == api.OpHole && !slices.Contains(names, p.Name) {
			names = append(names, p.Name)
		}
	}
	return names
}

// filled is a tree with others in the place of its holes.
func (t tree) filled(names []string, with []tree) tree {
	if t.Op == api.OpHole {
		return with[slices.Index(names, t.Name)]
	}
	out := tree{Node: t.Node}
	for _, p := range t.parts {
		out.parts = append(out.parts, p.filled(names, with))
	}
	return out
}

// text tells two lists apart, node by node; an empty list of kids is the same as none.
func text(l []api.Node) string {
	var s strings.Builder
	for _, n := range l {
		fmt.Fprintf(&s, "%d %d %q %v; ", n.Op, n.N, n.Name, n.Kids)
	}
	return s.String()
}

func texts(lists [][]api.Node) string {
	var s strings.Builder
	for _, l := range lists {
		s.WriteString(text(l) + "\n")
	}
	return s.String()
}

// lists is the lists of several trees.
func lists(trees ...tree) [][]api.Node {
	var l [][]api.Node
	for _, t := range trees {
		l = append(l, t.nodes())
	}
	return l
}

// different is the parts of a tree, each once.
func (t tree) different() []tree {
	var l []tree
	seen := map[string]bool{}
	for _, p := range t.all() {
		if s := text(p.nodes()); !seen[s] {
			seen[s] = true
			l = append(l, p)
		}
	}
	return l
}

// fillers is every list of trees that fill a pattern to a tree. What fills a hole is a part of the whole, so no other expressions need be tried.
func fillers(p, e tree) [][]tree {
	names, from, want := p.names(), e.different(), text(e.nodes())
	var found [][]tree
	with := make([]tree, len(names))
	var try func(at int)
	try = func(at int) {
		if at < len(with) {
			for _, part := range from {
				with[at] = part
				try(at + 1)
			}
		} else if text(p.filled(names, with).nodes()) == want {
			found = append(found, slices.Clone(with))
		}
	}
	try(0)
	return found
}

// proper tells whether a list is a sound pattern; if none may be a hole and there may be more nodes, whether it is a sound expression.
func proper(l []api.Node, most, holes int) bool {
	var open []int
	names := map[string]bool{}
	for i, n := range l {
		count, known := parts[n.Op]
		if !known || len(n.Kids) != count || len(open) < count || !slices.Equal(n.Kids, open[len(open)-count:]) {
			return false
		}
		named := n.Op == api.OpVar || n.Op == api.OpHole
		if named != runes.Name(n.Name) || !named && n.Name != "" || n.N != 0 && n.Op != api.OpLit {
			return false
		}
		if n.Op == api.OpHole {
			names[n.Name] = true
		}
		open = append(open[:len(open)-count], i)
	}
	return len(open) == 1 && len(l) <= most && len(names) <= holes
}

func soundPattern(l []api.Node) bool { return proper(l, 16, 6) }

func soundExpr(l []api.Node) bool { return proper(l, 64, 0) }

// chance is a tree of just that size over some leaves.
func chance(r *rand.Rand, leaves []tree, size int) tree {
	if size == 1 {
		return leaves[r.Intn(len(leaves))]
	}
	op := api.OpNeg + r.Intn(api.OpIf-api.OpNeg+1)
	for parts[op] >= size {
		op = api.OpNeg + r.Intn(api.OpIf-api.OpNeg+1)
	}
	t, left := do(op), size-1
	for i := parts[op]; i > 1; i-- {
		k := 1 + r.Intn(left-i+1)
		t.parts = append(t.parts, chance(r, leaves, k))
		left -= k
	}
	t.parts = append(t.parts, chance(r, leaves, left))
	r.Shuffle(len(t.parts), func(i, j int) { t.parts[i], t.parts[j] = t.parts[j], t.parts[i] })
	return t
}

// long is a tree of just that size: negations of something.
func long(of tree, size int) tree {
	for of.size() < size {
		of = do(api.OpNeg, of)
	}
	return of
}
