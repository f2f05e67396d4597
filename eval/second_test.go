package eval_test

import (
	"math/big"

	"sorrel/api"
)

// The second reckoning: trees, of which each part is asked anew, with numbers without any bound that are cut to 64 bits only in the end of each step.

// tree is an expression, which both its shapes are made of.
type tree struct {
	op    int
	n     int64
	name  string
	parts []tree
}

func lit(n int64) tree              { return tree{op: api.OpLit, n: n} }
func vari(name string) tree         { return tree{op: api.OpVar, name: name} }
func of(op int, parts ...tree) tree { return tree{op: op, parts: parts} }

// nodes is the tree as a list.
func (x tree) nodes() []api.Node {
	var e []api.Node
	var kids []int
	for _, part := range x.parts {
		first := len(e)
		for _, n := range part.nodes() {
			var moved []int
			for _, kid := range n.Kids {
				moved = append(moved, kid+first)
			}
			n.Kids = moved
			e = append(e, n)
		}
		kids = append(kids, len(e)-1)
	}
	return append(e, api.Node{Op: x.op, N: x.n, Name: x.name, Kids: kids})
}

// term is the tree as a term.
func (x tree) term() api.Term {
	var t []api.Term
	for _, part := range x.parts {
		t = append(t, part.term())
	}
	switch {
	case x.op == api.OpLit:
		return api.Lit{N: x.n}
	case x.op == api.OpVar:
		return api.Var{Name: x.name}
	case len(t) == 1:
		return api.Un{Op: x.op, A: t[0]}
	case len(t) == 2:
		return api.Bin{Op: x.op, A: t[0], B: t[1]}
	}
	return api.If{C: t[0], A: t[1], B: t[2]}
}

// all is the tree of each node, in the order of the nodes.
func (x tree) all() []tree {
	var l []tree
	for _, part := range x.parts {
		l = append(l, part.all()...)
	}
	return append(l, x)
}

// comes is what the tree comes to; false, if it traps.
func (x tree) comes(env []api.Bind) (int64, bool) {
	switch x.op {
	case api.OpLit:
		return x.n, true
	case api.OpVar:
		return number(env, x.name), true
	}
	whole := true
	var numbers []*big.Int
	for _, part := range x.parts {
		n, ok := part.comes(env)
		whole = whole && ok
		numbers = append(numbers, big.NewInt(n))
	}
	if !whole || divides(x.op) && numbers[1].Sign() == 0 {
		return 0, false
	}
	return wrap(apply(x.op, numbers)), true
}

// place is that of the first node which traps though none of its parts does; -1, if there is none.
func (x tree) place(env []api.Bind) int {
	for i, y := range x.all() {
		first := true
		for _, part := range y.parts {
			_, ok := part.comes(env)
			first = first && ok
		}
		if _, ok := y.comes(env); first && !ok {
			return i
		}
	}
	return -1
}

// number goes through the list from the front, so that the last one counts.
func number(env []api.Bind, name string) int64 {
	var n int64
	for _, b := range env {
		if b.Name == name {
			n = b.N
		}
	}
	return n
}

func divides(op int) bool { return op == api.OpDiv || op == api.OpRem }

// wrap is the number of 64 bits that is left of one without bound.
func wrap(x *big.Int) int64 {
	whole := new(big.Int).Lsh(big.NewInt(1), 64)
	x = new(big.Int).Mod(x, whole)
	if x.Bit(63) == 1 {
		x.Sub(x, whole)
	}
	return x.Int64()
}

// apply is what an operator makes of numbers.
func apply(op int, x []*big.Int) *big.Int {
	z := new(big.Int)
	switch op {
	case api.OpNeg:
		return z.Neg(x[0])
	case api.OpNot:
		return z.Not(x[0])
	case api.OpAdd:
		return z.Add(x[0], x[1])
	case api.OpSub:
		return z.Sub(x[0], x[1])
	case api.OpMul:
		return z.Mul(x[0], x[1])
	case api.OpDiv:
		return z.Quo(x[0], x[1])
	case api.OpRem:
		return z.Rem(x[0], x[1])
	case api.OpAnd:
		return z.And(x[0], x[1])
	case api.OpOr:
		return z.Or(x[0], x[1])
	case api.OpXor:
		return z.Xor(x[0], x[1])
	case api.OpShl:
		return z.Lsh(x[0], bits(x[1]))
	case api.OpShr:
		return z.Rsh(x[0], bits(x[1]))
	case api.OpEq:
		return flag(x[0].Cmp(x[1]) == 0)
	case api.OpLt:
		return flag(x[0].Cmp(x[1]) < 0)
	}
	if x[0].Sign() == 0 {
		return x[2]
	}
	return x[1]
}

// bits is by how many bits a shift goes.
func bits(x *big.Int) uint { return uint(new(big.Int).Mod(x, big.NewInt(64)).Uint64()) }

func flag(b bool) *big.Int {
	if b {
		return big.NewInt(1)
	}
	return new(big.Int)
}
