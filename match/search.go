package match

import (
	"cmp"
	"slices"
	"sort"

	"sorrel/api"
)

// maxFailed is how many states are kept, so that memory has a bound where time has none.
const maxFailed = 1 << 16

// board is the class in each slot, where that is known. Many are kept, so it is small; an int16 holds each class's number.
type board [api.MaxPattern]int16

// state is a step that is to be done, with all that makes a difference to it and to those behind it.
type state struct {
	step int
	at   board
}

// searcher looks for the classes that all relations of a pattern allow. There may be far more ways to go some steps than to go all, so where nothing was found behind a state, that is kept, and not gone through again.
type searcher struct {
	steps  []step
	whole  int   // the slot of the whole
	holes  []int // the slot of each hole
	failed map[state]struct{}
	found  []api.Match
}

// search is all with which a pattern stands at some classes, in order, or ErrLarge.
func search(pat []api.Node, classes []api.Class, at []int) ([]api.Match, api.Errno) {
	s := searcher{steps: plan(relations(pat, classes, at)), whole: len(pat) - 1, failed: map[state]struct{}{}}
	for i, n := range pat {
		if n.Op == api.OpHole && slotOf(pat, i) == i {
			s.holes = append(s.holes, i)
		}
	}
	s.from(0, board{})
	if s.full() {
		return nil, api.ErrLarge
	}
	found := s.found
	sort.Slice(found, func(i, j int) bool {
		a, b := found[i], found[j]
		return cmp.Or(cmp.Compare(a.Class, b.Class), slices.Compare(a.Holes, b.Holes)) < 0
	})
	return found, api.OK
}

// from finds all that steps from one on find; or too much, and then no more. None of it is found twice: what is in the holes' slots tells what is in all others, as no node stands twice in a picture.
func (s *searcher) from(k int, at board) {
	if s.full() {
		return
	}
	if k == len(s.steps) {
		s.found = append(s.found, api.Match{Class: int(at[s.whole]), Holes: at.classes(s.holes)})
		return
	}
	st := s.steps[k]
	here := state{k, at.only(st.needs)}
	if _, known := s.failed[here]; known {
		return
	}
	asked := at.row(st.slots).pick(st.asks)
	many := len(s.found)
	for _, shown := range st.goals[asked] {
		s.through(k, at, st.fits[pair{asked, shown}])
	}
	if len(s.found) == many && len(st.goals[asked]) > 0 {
		s.fail(here)
	}
}

// through goes on behind a step by rows that are the same to what follows: where one leads to nothing, so do the others.
func (s *searcher) through(k int, at board, rows []row) {
	for _, x := range rows {
		many := len(s.found)
		s.from(k+1, at.with(s.steps[k].slots, x))
		if len(s.found) == many {
			return
		}
	}
}

// fail keeps a state behind which nothing is found. Any may be forgotten: it is gone through again then.
func (s *searcher) fail(here state) {
	if len(s.failed) == maxFailed {
		clear(s.failed)
	}
	s.failed[here] = struct{}{}
}

// full tells whether more is found than may be.
func (s *searcher) full() bool { return len(s.found) > api.MaxFound }

// classes is the classes in some slots.
func (at board) classes(slots []int) []int {
	list := make([]int, len(slots))
	for i, slot := range slots {
		list[i] = int(at[slot])
	}
	return list
}

// row is the classes in a relation's slots.
func (at board) row(slots []int) row {
	var x row
	copy(x[:], at.classes(slots))
	return x
}

// only is a board with nothing but what is in some slots.
func (at board) only(slots []int) board {
	var b board
	for _, slot := range slots {
		b[slot] = at[slot]
	}
	return b
}

// with is a board with a row in its slots.
func (at board) with(slots []int, x row) board {
	for i, slot := range slots {
		at[slot] = int16(x[i])
	}
	return at
}
