package machine

import (
	"slices"

	"sorrel/api"
	"sorrel/expr"
)

// maxCommands is how many commands a sound program may have.
const maxCommands = 4 * api.MaxPattern

// maxParts is how many parts an operator may have.
const maxParts = 3

// none is the slot of a hole that is not taken, and the class in a slot that is not known.
const none = -1

// look is what a CClass asks: that the class in a slot has a node like want, with the classes in the slots that are its Kids.
type look struct {
	of   int
	want api.Node
}

// reading is what is read of a program. All its commands have to hold at once, so beyond its soundness their order is not seen in what it finds, and registers that have to hold one class are one slot.
type reading struct {
	slots []int // of each register; it is the least register of the slot
	looks []look
	holes []int // the slot of each hole
}

// read tells whether a program is sound, and what it asks.
func read(prog []api.Cmd, holes int) (reading, api.Errno) {
	if holes < 0 || holes > api.MaxHoles || len(prog) > maxCommands {
		return reading{}, api.ErrForm
	}
	r := reading{slots: []int{0}, holes: slices.Repeat([]int{none}, holes)}
	for _, c := range prog {
		if !r.has(c.R) || !r.command(c) {
			return reading{}, api.ErrForm
		}
	}
	if slices.Contains(r.holes, none) {
		return reading{}, api.ErrForm
	}
	return r, api.OK
}

// has tells whether there is a register.
func (r *reading) has(register int) bool { return register >= 0 && register < len(r.slots) }

// command reads a command whose R is a register; it tells whether the rest of it is sound, too.
func (r *reading) command(c api.Cmd) bool {
	switch c.Kind {
	case api.CClass:
		parts, ok := named(c)
		if !ok || c.To != len(r.slots) {
			return false
		}
		r.look(c, parts)
	case api.CSame:
		if !bare(c) || !r.has(c.To) {
			return false
		}
		r.join(r.slots[c.R], r.slots[c.To])
	case api.CTake:
		if !bare(c) || c.To < 0 || c.To >= len(r.holes) || r.holes[c.To] != none {
			return false
		}
		r.holes[c.To] = r.slots[c.R]
	default:
		return false
	}
	return true
}

// named is how many parts the operator of a command has, and whether Op, N and Name may stand together.
func named(c api.Cmd) (int, bool) {
	parts, bad := expr.Arity(c.Op)
	if bad != api.OK {
		return 0, false
	}
	leaf := []api.Node{{Op: api.OpLit}}
	_, bad = expr.Make(c.Op, c.N, c.Name, slices.Repeat([][]api.Node{leaf}, parts)...)
	return parts, bad == api.OK
}

// bare tells whether a command names no node.
func bare(c api.Cmd) bool { return c.Op == 0 && c.N == 0 && c.Name == "" }

// look puts what a CClass asks behind the rest, and makes its registers.
func (r *reading) look(c api.Cmd, parts int) {
	l := look{of: r.slots[c.R], want: api.Node{Op: c.Op, N: c.N, Name: c.Name}}
	for range parts {
		l.want.Kids = append(l.want.Kids, len(r.slots))
		r.slots = append(r.slots, len(r.slots))
	}
	r.looks = append(r.looks, l)
}

// join makes one slot of two, wherever they stand.
func (r *reading) join(a, b int) {
	to, from := min(a, b), max(a, b)
	change(r.slots, from, to)
	change(r.holes, from, to)
	for i := range r.looks {
		if r.looks[i].of == from {
			r.looks[i].of = to
		}
		change(r.looks[i].want.Kids, from, to)
	}
}

// change puts one number in the place of another.
func change(list []int, from, to int) {
	for i := range list {
		if list[i] == from {
			list[i] = to
		}
	}
}
