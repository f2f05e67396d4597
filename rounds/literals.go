package rounds

import (
	"cmp"
	"slices"

	"sorrel/api"
	"sorrel/arith"
)

// putLiterals puts into each class that is a constant, as the web is now, the literal of its number. It tells whether that has changed anything.
func (w *web) putLiterals() bool {
	changed := false
	for class, f := range w.constants() {
		if !f.Const {
			continue
		}
		literal := w.class(knot{op: api.OpLit, n: f.N})
		if literal != w.stands(class) {
			w.join(literal, class)
			changed = true
		}
	}
	return changed
}

// finding is a number that a class is given.
type finding struct {
	class int
	n     int64
}

// constants tells of each class that stands whether it is Const, and its N. Package facts knows that of sound pictures alone; a web may be beyond their limits.
func (w *web) constants() []api.Fact {
	known := make([]api.Fact, len(w.up))
	waits := make([]int, len(w.knots)) // how many of a knot's kids are not known
	var ready []int                    // the places of knots all of whose kids are known since the last step
	for place, k := range w.knots {
		waits[place] = k.parts
		if k.op == api.OpLit {
			ready = append(ready, place)
		}
	}
	for len(ready) > 0 {
		found := w.findings(ready, known)
		ready = nil
		for _, f := range found {
			// The first of a class is the least one; one from an earlier step counts ahead of all.
			if known[f.class].Const {
				continue
			}
			known[f.class] = api.Fact{Const: true, N: f.n}
			ready = append(ready, w.freed(f.class, waits)...)
		}
	}
	return known
}

// findings is what knots give their classes by what is known of their kids, lesser numbers first.
func (w *web) findings(ready []int, known []api.Fact) []finding {
	var list []finding
	for _, place := range ready {
		if n, bad := number(w.knots[place], known); bad == api.OK {
			list = append(list, finding{w.home(place), n})
		}
	}
	slices.SortFunc(list, func(a, b finding) int { return cmp.Compare(a.n, b.n) })
	return list
}

// number is what a knot comes to, all of whose kids are known.
func number(k knot, known []api.Fact) (int64, api.Errno) {
	if k.op == api.OpLit {
		return k.n, api.OK
	}
	var numbers []int64
	for _, kid := range k.kids[:k.parts] {
		numbers = append(numbers, known[kid].N)
	}
	return arith.Apply(k.op, numbers...)
}

// freed is the places of the knots that have waited for a class, which is known now, and for nothing else.
func (w *web) freed(class int, waits []int) []int {
	var list []int
	for _, place := range w.uses[class] {
		waits[place]--
		if waits[place] == 0 && w.homes[place] != none {
			list = append(list, place)
		}
	}
	return list
}
