package graph_test

import (
	"fmt"
	"slices"
	"strings"

	"sorrel/api"
	"sorrel/expr"
	"sorrel/runes"
)

// The second reckoning: all expressions that were told, with all their parts, as lists; the pairs that were merged; and classes that are found anew for each question, by holding every expression against every other till nothing changes.

type plain struct {
	terms [][]api.Node // each once, parts ahead of wholes
	nodes []api.Node   // their own nodes; Kids are places in terms
	pairs [][2]int
	roots []int
}

var arities = []int{0, 0, 0, 1, 1, 2, 2, 2, 2, 2, 2, 2, 2, 2, 2, 2, 2, 3}

// same tells whether two nodes are; an empty list of kids is the same as none.
func same(a, b api.Node) bool {
	return a.Op == b.Op && a.N == b.N && a.Name == b.Name && slices.Equal(a.Kids, b.Kids)
}

// parts is the parts of a sound expression.
func parts(e []api.Node) [][]api.Node {
	var l [][]api.Node
	for _, at := range e[len(e)-1].Kids {
		part, bad := expr.Part(e, at)
		if bad != api.OK {
			panic("a part that is none")
		}
		l = append(l, part)
	}
	return l
}

// put is the place of an expression, which is told now if it was not.
func (p *plain) put(e []api.Node) int {
	n := e[len(e)-1]
	var kids []int
	for _, part := range parts(e) {
		kids = append(kids, p.put(part))
	}
	for i, x := range p.terms {
		if slices.EqualFunc(x, e, same) {
			return i
		}
	}
	p.terms = append(p.terms, e)
	p.nodes = append(p.nodes, api.Node{Op: n.Op, N: n.N, Name: n.Name, Kids: kids})
	return len(p.terms) - 1
}

func (p *plain) add(e []api.Node) { p.roots = append(p.roots, p.put(e)) }

func (p *plain) merge(a, b []api.Node) { p.pairs = append(p.pairs, [2]int{p.put(a), p.put(b)}) }

func (p *plain) copy() *plain {
	return &plain{slices.Clone(p.terms), slices.Clone(p.nodes), slices.Clone(p.pairs), slices.Clone(p.roots)}
}

// lifted is a node whose kids are changed for their classes.
func lifted(n api.Node, class []int) api.Node {
	kids := make([]int, len(n.Kids))
	for i, kid := range n.Kids {
		kids[i] = class[kid]
	}
	n.Kids = kids
	return n
}

// classes is a class for each expression: the least place of one that is equal to it.
func (p *plain) classes() []int {
	class := make([]int, len(p.terms))
	for i := range class {
		class[i] = i
	}
	equal := func(a, b int) bool {
		x, y := min(class[a], class[b]), max(class[a], class[b])
		for i, c := range class {
			if c == y {
				class[i] = x
			}
		}
		return x != y
	}
	for again := true; again; {
		again = false
		for _, pair := range p.pairs {
			again = equal(pair[0], pair[1]) || again
		}
		for a := range p.nodes {
			for b := range a {
				if same(lifted(p.nodes[a], class), lifted(p.nodes[b], class)) {
					again = equal(a, b) || again
				}
			}
		}
	}
	return class
}

// find is the class that represents an expression, or -1.
func (p *plain) find(e []api.Node, class []int) int {
	n := e[len(e)-1]
	var kids []int
	for _, part := range parts(e) {
		kid := p.find(part, class)
		if kid < 0 {
			return -1
		}
		kids = append(kids, kid)
	}
	n.Kids = kids
	for i, x := range p.nodes {
		if same(lifted(x, class), n) {
			return class[i]
		}
	}
	return -1
}

// tree is an expression of any size.
type tree struct {
	node  api.Node // without Kids
	parts []*tree
	size  int
}

// compare is the order of expressions.
func compare(a, b *tree) int {
	if a == b {
		return 0
	}
	if a.size != b.size {
		return a.size - b.size
	}
	if c := nodeOrder(a.node, b.node); c != 0 {
		return c
	}
	for i := range a.parts {
		if c := compare(a.parts[i], b.parts[i]); c != 0 {
			return c
		}
	}
	return 0
}

// lowest is the least expression of each class, of those that have fewer than MaxSize nodes; a class that represents none such has none. They get less till none does.
func lowest(nodes [][]api.Node) []*tree {
	least := make([]*tree, len(nodes))
	for again := true; again; {
		again = false
		for c, list := range nodes {
			for _, n := range list {
				e := &tree{node: api.Node{Op: n.Op, N: n.N, Name: n.Name}, size: 1}
				for _, kid := range n.Kids {
					if least[kid] == nil {
						e = nil
						break
					}
					e.parts = append(e.parts, least[kid])
					e.size += least[kid].size
				}
				if e != nil && e.size < api.MaxSize && (least[c] == nil || compare(e, least[c]) < 0) {
					least[c], again = e, true
				}
			}
		}
	}
	return least
}

// nodeOrder is the order of nodes in a class.
func nodeOrder(a, b api.Node) int {
	switch {
	case a.Op != b.Op:
		return a.Op - b.Op
	case a.N < b.N:
		return -1
	case a.N > b.N:
		return 1
	case a.Name != b.Name:
		return runes.Order(a.Name, b.Name)
	}
	for i := range a.Kids {
		if a.Kids[i] != b.Kids[i] {
			return a.Kids[i] - b.Kids[i]
		}
	}
	return 0
}

// picture is that of all that was told.
func (p *plain) picture() api.Picture {
	class := p.classes()
	nodes := make([][]api.Node, len(class))
	for i, x := range p.nodes {
		n := lifted(x, class)
		if !slices.ContainsFunc(nodes[class[i]], func(y api.Node) bool { return same(n, y) }) {
			nodes[class[i]] = append(nodes[class[i]], n)
		}
	}
	var roots []int
	for _, root := range p.roots {
		roots = append(roots, class[root])
	}
	return drawn(nodes, roots)
}

// drawn is the picture of classes in any order, with their nodes in any order; those without nodes are left out.
func drawn(nodes [][]api.Node, roots []int) api.Picture {
	least := lowest(nodes)
	var order []int
	for c := range nodes {
		if len(nodes[c]) > 0 {
			order = append(order, c)
		}
	}
	slices.SortFunc(order, func(a, b int) int { return compare(least[a], least[b]) })
	number := make([]int, len(nodes))
	for i, c := range order {
		number[c] = i
	}
	var q api.Picture
	for _, c := range order {
		var list []api.Node
		for _, n := range nodes[c] {
			list = append(list, lifted(n, number))
		}
		slices.SortFunc(list, nodeOrder)
		q.Classes = append(q.Classes, api.Class{Nodes: list, Size: least[c].size})
	}
	for _, root := range roots {
		q.Roots = append(q.Roots, number[root])
	}
	return q
}

// within tells whether all numbers are places of a list.
func within(numbers []int, many int) bool {
	return !slices.ContainsFunc(numbers, func(n int) bool { return n < 0 || n >= many })
}

// fits tells whether a node of a picture is one, its kids aside.
func fits(n api.Node) bool {
	if n.Op < api.OpLit || n.Op > api.OpIf || len(n.Kids) != arities[n.Op] {
		return false
	}
	if n.Op == api.OpVar {
		return n.N == 0 && runes.Name(n.Name)
	}
	return n.Name == "" && (n.N == 0 || n.Op == api.OpLit)
}

// sound goes through what the document says of sound pictures, sentence by sentence.
func sound(p api.Picture) bool {
	many := len(p.Classes)
	var all []api.Node
	var nodes [][]api.Node
	for _, c := range p.Classes {
		if len(c.Nodes) == 0 {
			return false
		}
		for _, n := range c.Nodes {
			if !fits(n) || !within(n.Kids, many) || slices.ContainsFunc(all, func(x api.Node) bool { return same(x, n) }) {
				return false
			}
			all = append(all, n)
		}
		if !slices.IsSortedFunc(c.Nodes, nodeOrder) {
			return false
		}
		nodes = append(nodes, c.Nodes)
	}
	if many > api.MaxClasses || len(all) > api.MaxNodes || !within(p.Roots, many) {
		return false
	}
	least := lowest(nodes)
	for c := range p.Classes {
		if least[c] == nil || least[c].size != p.Classes[c].Size || c > 0 && compare(least[c-1], least[c]) >= 0 {
			return false
		}
	}
	return true
}

// text is a picture, written out.
func text(p api.Picture) string {
	var s strings.Builder
	for c, class := range p.Classes {
		fmt.Fprintf(&s, "%d:", c)
		for _, n := range class.Nodes {
			fmt.Fprintf(&s, " %d/%d/%s%v", n.Op, n.N, n.Name, n.Kids)
		}
		fmt.Fprintf(&s, " size %d; ", class.Size)
	}
	return s.String() + fmt.Sprint(p.Roots)
}
