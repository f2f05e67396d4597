package graph

import (
	"slices"

	"sorrel/api"
)

// Of: a graph with what a picture represents.
func Of(p api.Picture) (*Graph, api.Errno) {
	least, ok := leasts(p)
	if !ok {
		return nil, api.ErrForm
	}
	g := New()
	// As these are all put in ahead of others, and no two are the same, the entry that stands for a class has the class's number.
	for _, n := range least {
		if _, bad := g.seat(n, none); bad != api.OK {
			return nil, api.ErrForm
		}
	}
	for class, c := range p.Classes {
		for _, n := range c.Nodes {
			id, bad := g.seat(n, class)
			// A node that has a seat in another class stands twice.
			if bad != api.OK || g.stands(id) != class {
				return nil, api.ErrForm
			}
		}
	}
	g.roots = slices.Clone(p.Roots)
	return g, api.OK
}

// leasts is the nodes of the classes' least expressions; the Kids of each are earlier classes. It is false, if the picture is not sound, but asks neither whether each node is one in itself nor whether one stands in two classes.
func leasts(p api.Picture) ([]api.Node, bool) {
	if !bounded(p) {
		return nil, false
	}
	var list []api.Node
	for class, c := range p.Classes {
		n, ok := least(c, p.Classes)
		if !ok {
			return nil, false
		}
		if class > 0 {
			before := spot{node: list[class-1], size: p.Classes[class-1].Size}
			if !before.less(spot{node: n, size: c.Size}) {
				return nil, false
			}
		}
		list = append(list, n)
	}
	return list, true
}

// bounded tells whether a picture keeps to the limits and all its numbers are in range.
func bounded(p api.Picture) bool {
	if len(p.Classes) > api.MaxClasses || !inRange(p.Roots, p) {
		return false
	}
	many := 0
	for _, c := range p.Classes {
		many += len(c.Nodes)
		if many > api.MaxNodes || c.Size < 1 || c.Size >= api.MaxSize {
			return false
		}
		for _, n := range c.Nodes {
			if !inRange(n.Kids, p) {
				return false
			}
		}
	}
	return true
}

// inRange tells whether numbers are all of a picture's classes.
func inRange(numbers []int, p api.Picture) bool {
	for _, class := range numbers {
		if class < 0 || class >= len(p.Classes) {
			return false
		}
	}
	return true
}

// least is the node of a class's least expression. It is false, if the nodes are not in order, or the class's Size is not the least that one of them comes to by the Sizes of all classes. Where that is so of all classes, the Sizes are right: each is that of an expression, since the Kids of the node that comes to it have lesser ones, and no expression comes to less.
func least(c api.Class, classes []api.Class) (api.Node, bool) {
	at := none
	for i, n := range c.Nodes {
		if i > 0 && order(c.Nodes[i-1], n) >= 0 {
			return api.Node{}, false
		}
		size := sizeOf(n, classes)
		if size < c.Size {
			return api.Node{}, false
		}
		if size == c.Size && at == none {
			at = i
		}
	}
	if at == none {
		return api.Node{}, false
	}
	return c.Nodes[at], true
}
