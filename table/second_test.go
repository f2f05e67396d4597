package table_test

import (
	"math/big"
	"slices"

	"sorrel/api"
	"sorrel/expr"
	"sorrel/runes"
)

// The second reckoning: a list of nodes and nothing else, which is searched anew for each question, and sizes that are counted without an end.

type plain struct{ nodes []api.Node }

var arities = []int{0, 0, 0, 1, 1, 2, 2, 2, 2, 2, 2, 2, 2, 2, 2, 2, 2, 3}

// same tells whether two nodes are; an empty list of kids is the same as none.
func same(a, b api.Node) bool {
	return a.Op == b.Op && a.N == b.N && a.Name == b.Name && slices.Equal(a.Kids, b.Kids)
}

// sameAll tells whether two lists of nodes are, node by node.
func sameAll(a, b []api.Node) bool { return slices.EqualFunc(a, b, same) }

// copied is a node that shares nothing.
func copied(n api.Node) api.Node {
	n.Kids = slices.Clone(n.Kids)
	return n
}

// fault is what keeps a node from being an entry, sentence by sentence of P10.1.
func (p *plain) fault(n api.Node) api.Errno {
	switch {
	case n.Op < api.OpLit || n.Op > api.OpIf:
		return api.ErrForm
	case len(n.Kids) != arities[n.Op]:
		return api.ErrForm
	case n.Op != api.OpLit && n.N != 0:
		return api.ErrForm
	case n.Op != api.OpVar && n.Name != "":
		return api.ErrForm
	case n.Op == api.OpVar && !runes.Name(n.Name):
		return api.ErrForm
	}
	for _, kid := range n.Kids {
		if kid < 0 || kid >= len(p.nodes) {
			return api.ErrArg
		}
	}
	return api.OK
}

func (p *plain) find(n api.Node) (int, api.Errno) {
	if bad := p.fault(n); bad != api.OK {
		return 0, bad
	}
	for id, x := range p.nodes {
		if same(x, n) {
			return id, api.OK
		}
	}
	return 0, api.ErrNone
}

func (p *plain) put(n api.Node) (int, api.Errno) {
	id, bad := p.find(n)
	if bad == api.ErrNone {
		p.nodes = append(p.nodes, copied(n))
		return len(p.nodes) - 1, api.OK
	}
	return id, bad
}

// add puts the parts of a sound expression in, each as an expression of its own, and then the whole.
func (p *plain) add(e []api.Node) int {
	n := copied(e[len(e)-1])
	for i, at := range n.Kids {
		part, bad := expr.Part(e, at)
		if bad != api.OK {
			panic("a part that is none")
		}
		n.Kids[i] = p.add(part)
	}
	id, bad := p.put(n)
	if bad != api.OK {
		panic("a node that is none")
	}
	return id
}

// sizes is how many nodes each entry's expression has.
func (p *plain) sizes() []*big.Int {
	var l []*big.Int
	for _, n := range p.nodes {
		size := big.NewInt(1)
		for _, kid := range n.Kids {
			size.Add(size, l[kid])
		}
		l = append(l, size)
	}
	return l
}

// told is a size as Size tells it.
func told(size *big.Int) int {
	if size.Cmp(big.NewInt(api.MaxSize)) >= 0 {
		return api.MaxSize
	}
	return int(size.Int64())
}

// expr is the expression of an entry of at most MaxTerm nodes, made of its parts' by the call of layer 2.
func (p *plain) expr(id int) []api.Node {
	n := p.nodes[id]
	var parts [][]api.Node
	for _, kid := range n.Kids {
		parts = append(parts, p.expr(kid))
	}
	e, bad := expr.Make(n.Op, n.N, n.Name, parts...)
	if bad != api.OK {
		panic("parts that do not fit")
	}
	return e
}
