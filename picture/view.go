package picture

import (
	"cmp"
	"slices"

	"sorrel/api"
	"sorrel/table"
)

// view is a sound picture whose nodes can be found. Its table has the nodes of the classes' least expressions ahead of all others, so that such an entry has the number of its class: numbers of classes are numbers of entries, and what the entry stands for is the class's least expression.
type view struct {
	nodes *table.Table
	homes []int // the class of each entry
}

// look is a view of a sound picture.
func look(p api.Picture) *view {
	v := &view{nodes: table.New()}
	for class, n := range leasts(p.Classes, bySize(p.Classes)) {
		v.put(n, class)
	}
	for class, c := range p.Classes {
		for _, n := range c.Nodes {
			v.put(n, class)
		}
	}
	return v
}

// leasts is the node of each class's least expression, where nodes of one class are compared by the least expressions that they come to.
func leasts(classes []api.Class, compare func(a, b api.Node) int) []api.Node {
	var list []api.Node
	for _, c := range classes {
		list = append(list, slices.MinFunc(c.Nodes, compare))
	}
	return list
}

// bySize compares nodes by the sizes of their least expressions. Of several nodes of a class that come to one size the first has the least expression, since both nodes and classes stand in order, and the first is the one that a search for the least answers.
func bySize(classes []api.Class) func(a, b api.Node) int {
	size := func(n api.Node) int {
		sum := 1
		for _, kid := range n.Kids {
			sum += classes[kid].Size
		}
		return sum
	}
	return func(a, b api.Node) int { return cmp.Compare(size(a), size(b)) }
}

// put takes a node of a class in, unless it is an entry already. It can't fail: the Kids of a least node are earlier classes, and those of any other come when all classes have their entries.
func (v *view) put(n api.Node, class int) {
	if id, _ := v.nodes.Put(n); id == len(v.homes) {
		v.homes = append(v.homes, class)
	}
}

// class is the class that has a node, whose Kids are classes.
func (v *view) class(n api.Node) (int, bool) {
	id, bad := v.nodes.Find(n)
	if bad != api.OK {
		return 0, false
	}
	return v.homes[id], true
}

// lifted is a node with the classes of its Kids in their place, in a list of its own.
func lifted(n api.Node, classes []int) api.Node {
	var kids []int
	for _, kid := range n.Kids {
		kids = append(kids, classes[kid])
	}
	n.Kids = kids
	return n
}

// inside tells whether each class of v has a class of w with all its nodes. That can only be the one which has the node of the class's least expression, so the entries ahead tell which class it is, and those behind have to fit.
func (v *view) inside(w *view) bool {
	var others []int
	for id, n := range v.nodes.All() {
		class, there := w.class(lifted(n, others))
		if !there {
			return false
		}
		home := v.homes[id]
		if home == len(others) {
			others = append(others, class)
		}
		if others[home] != class {
			return false
		}
	}
	return true
}
