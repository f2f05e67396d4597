package picture

import (
	"slices"

	"sorrel/api"
	"sorrel/expr"
)

// search finds expressions of the classes of a sound picture. It never goes beyond the first MaxTerms of a class and a size: what comes behind them can't be a part of one of the first MaxTerms of anything, as each of them in its place would make one that comes ahead.
type search struct {
	classes []api.Class
	found   map[goal]answer
}

// goal is what is searched for: the expressions of a class that have just that size.
type goal struct{ class, size int }

// answer is the first MaxTerms of them, in order.
type answer struct{ terms [][]api.Node }

func newSearch(p api.Picture) *search {
	return &search{classes: p.Classes, found: map[goal]answer{}}
}

// upTo is the first MaxTerms expressions of a class that have at most so many nodes, in order.
func (s *search) upTo(class, most int) [][]api.Node {
	var list [][]api.Node
	for size := 1; size <= most && len(list) < api.MaxTerms; size++ {
		list = append(list, s.terms(goal{class, size})...)
	}
	return firsts(list)
}

// firsts is the first MaxTerms of a list.
func firsts[T any](list []T) []T { return list[:min(len(list), api.MaxTerms)] }

// terms is the answer to a goal. It ends in cycles of classes too, since parts are of lesser sizes.
func (s *search) terms(g goal) [][]api.Node {
	if known, there := s.found[g]; there {
		return known.terms
	}
	var list [][]api.Node
	for _, n := range s.classes[g.class].Nodes {
		more := s.withNode(n, g.size)
		if len(more) == 0 {
			continue
		}
		list = append(list, more...)
		slices.SortFunc(list, order)
		list = firsts(list)
	}
	s.found[g] = answer{list}
	return list
}

// order compares sound expressions.
func order(a, b []api.Node) int {
	c, _ := expr.Order(a, b)
	return c
}

// withNode is the first MaxTerms expressions of just that size that a node represents, in order.
func (s *search) withNode(n api.Node, size int) [][]api.Node {
	var list [][]api.Node
	for _, parts := range s.rows(n.Kids, size-1) {
		e, _ := expr.Make(n.Op, n.N, n.Name, parts...)
		list = append(list, e)
	}
	return list
}

// rows is the first MaxTerms rows of expressions, one of each class, that have just that size in all, in the order of the first expressions that differ.
func (s *search) rows(classes []int, size int) [][][]api.Node {
	if len(classes) == 0 && size == 0 {
		return [][][]api.Node{nil}
	}
	if len(classes) == 0 {
		return nil
	}
	var list [][][]api.Node
	// The lesser sizes of the first come first in the order.
	for first := s.classes[classes[0]].Size; first <= size && len(list) < api.MaxTerms; first++ {
		rest := s.rows(classes[1:], size-first)
		if len(rest) == 0 {
			continue
		}
		for _, e := range s.terms(goal{classes[0], first}) {
			for _, row := range rest {
				list = append(list, append([][]api.Node{e}, row...))
			}
		}
	}
	return firsts(list)
}
