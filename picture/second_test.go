package picture_test

import (
	"cmp"
	"fmt"
	"math/rand"
	"slices"
	"strings"

	"sorrel/api"
	"sorrel/expr"
	"sorrel/runes"
)

// The second reckoning: classes by their nodes in any order; which expression is the least of each is found one after the other, nodes are found by going through all of them, and expressions by holding all that there are against a picture.

var arities = []int{0, 0, 0, 1, 1, 2, 2, 2, 2, 2, 2, 2, 2, 2, 2, 2, 2, 3}

// nodeOrder is the order of nodes in a class.
func nodeOrder(a, b api.Node) int {
	return cmp.Or(cmp.Compare(a.Op, b.Op), cmp.Compare(a.N, b.N), slices.Compare([]rune(a.Name), []rune(b.Name)), slices.Compare(a.Kids, b.Kids))
}

// put is a node with numbers for its Kids.
func put(n api.Node, numbers []int) api.Node {
	kids := make([]int, len(n.Kids))
	for i, kid := range n.Kids {
		kids[i] = numbers[kid]
	}
	n.Kids = kids
	return n
}

// homes is the classes that have a node.
func homes(p api.Picture, n api.Node) []int {
	var list []int
	for class, c := range p.Classes {
		for _, x := range c.Nodes {
			if nodeOrder(x, n) == 0 {
				list = append(list, class)
			}
		}
	}
	return list
}

// where is the class of a sound picture that represents an expression of any size, or -1.
func where(p api.Picture, e []api.Node) int {
	at := make([]int, len(e))
	for i, n := range e {
		found := homes(p, put(n, at))
		if len(found) == 0 {
			return -1
		}
		at[i] = found[0]
	}
	return at[len(e)-1]
}

// ranking is classes in the order of their least expressions.
type ranking struct {
	order []int      // the classes; those that represent nothing below MaxSize are not among them
	rank  []int      // the place of each class there, or -1
	least []api.Node // of each class the node of its least expression
	size  []int
}

// ranked finds the order: of all nodes whose Kids have their rank and whose class has none, the one with the least expression is next, again and again.
func ranked(classes [][]api.Node) ranking {
	x := ranking{rank: make([]int, len(classes)), least: make([]api.Node, len(classes)), size: make([]int, len(classes))}
	for c := range classes {
		x.rank[c] = -1
	}
	for x.next(classes) {
	}
	return x
}

func (x *ranking) next(classes [][]api.Node) bool {
	best, bestSize, bestNode := -1, 0, api.Node{}
	for c, nodes := range classes {
		if x.rank[c] >= 0 {
			continue
		}
		for _, n := range nodes {
			size := x.sizeOf(n)
			if size >= api.MaxSize {
				continue
			}
			if best < 0 || size < bestSize || size == bestSize && nodeOrder(put(n, x.rank), put(bestNode, x.rank)) < 0 {
				best, bestSize, bestNode = c, size, n
			}
		}
	}
	if best < 0 {
		return false
	}
	x.rank[best], x.least[best], x.size[best] = len(x.order), bestNode, bestSize
	x.order = append(x.order, best)
	return true
}

// sizeOf is MaxSize, where a kid has no rank.
func (x *ranking) sizeOf(n api.Node) int {
	size := 1
	for _, kid := range n.Kids {
		if x.rank[kid] < 0 {
			return api.MaxSize
		}
		size += x.size[kid]
	}
	return size
}

// write appends the least expression that a node comes to.
func (x *ranking) write(e []api.Node, n api.Node) []api.Node {
	var kids []int
	for _, kid := range n.Kids {
		e = x.write(e, x.least[kid])
		kids = append(kids, len(e)-1)
	}
	n.Kids = kids
	return append(e, n)
}

// leastOf is the least expression of a class.
func (x *ranking) leastOf(c int) []api.Node { return x.write(nil, x.least[c]) }

// nodesOf is the classes of a picture by their nodes.
func nodesOf(p api.Picture) [][]api.Node {
	var list [][]api.Node
	for _, c := range p.Classes {
		list = append(list, c.Nodes)
	}
	return list
}

// drawn is the picture of classes, without those that represent nothing below MaxSize, and without the nodes above such.
func drawn(classes [][]api.Node, roots ...int) api.Picture {
	x := ranked(classes)
	var p api.Picture
	for _, c := range x.order {
		var nodes []api.Node
		for _, n := range classes[c] {
			if n = put(n, x.rank); !slices.Contains(n.Kids, -1) {
				nodes = append(nodes, n)
			}
		}
		slices.SortFunc(nodes, nodeOrder)
		p.Classes = append(p.Classes, class(x.size[c], nodes...))
	}
	for _, root := range roots {
		if x.rank[root] >= 0 {
			p.Roots = append(p.Roots, x.rank[root])
		}
	}
	return p
}

// within tells whether all numbers are of classes.
func within(numbers []int, many int) bool {
	return !slices.ContainsFunc(numbers, func(n int) bool { return n < 0 || n >= many })
}

// fits tells whether a node is as in an expression, its kids aside.
func fits(n api.Node) bool {
	if n.Op < api.OpLit || n.Op > api.OpIf || len(n.Kids) != arities[n.Op] || n.Op != api.OpLit && n.N != 0 {
		return false
	}
	return n.Name == "" && n.Op != api.OpVar || n.Op == api.OpVar && runes.Name(n.Name)
}

// sound goes through what the document says of sound pictures, sentence by sentence.
func sound(p api.Picture) bool {
	if len(p.Classes) > api.MaxClasses || len(slices.Concat(nodesOf(p)...)) > api.MaxNodes || !within(p.Roots, len(p.Classes)) {
		return false
	}
	for _, c := range p.Classes {
		if len(c.Nodes) == 0 || !slices.IsSortedFunc(c.Nodes, nodeOrder) {
			return false
		}
		for _, n := range c.Nodes {
			if !fits(n) || !within(n.Kids, len(p.Classes)) || len(homes(p, n)) != 1 {
				return false
			}
		}
	}
	x := ranked(nodesOf(p))
	for c := range p.Classes {
		if x.rank[c] != c || x.size[c] != p.Classes[c].Size {
			return false
		}
	}
	return true
}

// every is all expressions of at most that many nodes, by their sizes, of the leaves and operators given (both in order), in the order of expressions.
func every(most int, leaves []api.Node, ops []int) [][][]api.Node {
	list := make([][][]api.Node, most+1)
	for size := 1; size <= most; size++ {
		if size == 1 {
			for _, leaf := range leaves {
				list[1] = append(list[1], []api.Node{leaf})
			}
		}
		for _, op := range ops {
			for _, row := range rowsOf(arities[op], size-1, list) {
				list[size] = append(list[size], made(op, row...))
			}
		}
	}
	return list
}

// rowsOf is all rows of so many expressions that have so many nodes in all, in order.
func rowsOf(many, size int, list [][][]api.Node) [][][]api.Node {
	if many == 0 {
		if size == 0 {
			return [][][]api.Node{{}}
		}
		return nil
	}
	var rows [][][]api.Node
	for first := 1; first <= size; first++ {
		for _, e := range list[first] {
			for _, rest := range rowsOf(many-1, size-first, list) {
				rows = append(rows, append([][]api.Node{e}, rest...))
			}
		}
	}
	return rows
}

// insideByAll tries each way to give the classes of p classes of q.
func insideByAll(p, q api.Picture) bool {
	to := make([]int, len(p.Classes))
	for {
		if fitsInto(p, q, to) {
			return true
		}
		at := 0
		for at < len(to) && to[at] >= len(q.Classes)-1 {
			to[at] = 0
			at++
		}
		if at == len(to) {
			return false
		}
		to[at]++
	}
}

func fitsInto(p, q api.Picture, to []int) bool {
	for c, class := range p.Classes {
		for _, n := range class.Nodes {
			if !slices.Equal(homes(q, put(n, to)), []int{to[c]}) {
				return false
			}
		}
	}
	return true
}

// insideByTerms asks of each node of p whether q represents the least expression that it comes to, in the class of the least one of its class.
func insideByTerms(p, q api.Picture) bool {
	x := ranked(nodesOf(p))
	for c, class := range p.Classes {
		at := where(q, x.leastOf(c))
		for _, n := range class.Nodes {
			if at < 0 || where(q, x.write(nil, n)) != at {
				return false
			}
		}
	}
	return true
}

// chance is a random sound picture of at most so many classes, of the leaves and operators given. Where near is above 0, leaves stand in as many classes alone, and the kids of a node are at most so many classes ahead of its own: so sizes grow.
func chance(r *rand.Rand, many, near int, leaves []api.Node, ops []int) api.Picture {
	classes := make([][]api.Node, 1+r.Intn(many))
	for range (2 + r.Intn(5)) * len(classes) {
		c, kid := r.Intn(len(classes)), func() int { return r.Intn(len(classes)) }
		if near > 0 {
			kid = func() int { return max(0, c-1-r.Intn(near)) }
		}
		n := api.Node{Op: ops[r.Intn(len(ops))]}
		for range arities[n.Op] {
			n.Kids = append(n.Kids, kid())
		}
		if near == 0 && r.Intn(4) == 0 || near > c {
			n = leaves[r.Intn(len(leaves))]
		}
		if !slices.ContainsFunc(slices.Concat(classes...), func(x api.Node) bool { return nodeOrder(x, n) == 0 }) {
			classes[c] = append(classes[c], n)
		}
	}
	var roots []int
	for range r.Intn(4) {
		roots = append(roots, r.Intn(len(classes)))
	}
	return drawn(classes, roots...)
}

// text is a picture, written out.
func text(p api.Picture) string {
	var s strings.Builder
	for c, class := range p.Classes {
		fmt.Fprintf(&s, "%d:", c)
		for _, n := range class.Nodes {
			fmt.Fprintf(&s, " %d/%d/%s%v", n.Op, n.N, n.Name, n.Kids)
		}
		fmt.Fprintf(&s, " size %d; ", class.Size)
	}
	return s.String() + fmt.Sprint(p.Roots)
}

// made is an expression of an operator and parts that fit.
func made(op int, parts ...[]api.Node) []api.Node {
	e, bad := expr.Make(op, 0, "", parts...)
	if bad != api.OK {
		panic("parts that do not fit")
	}
	return e
}
