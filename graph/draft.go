package graph

import "sorrel/api"

// draft is what expressions are in a graph, and what they would bring into it, while the graph is left as it is. A node's mark is the entry that stands for its class; of a node that the graph lacks it is below 0: -1 of the first such one, -2 of the second.
type draft struct {
	g     *Graph
	fresh []api.Node    // the nodes that the graph lacks, each once, in the order of their marks; their Kids are marks
	marks map[shape]int // the marks of those
}

// shape is all that tells a node from another, in a form that a map can find. The operator tells how many of the kids count; the others are 0.
type shape struct {
	op   int
	n    int64
	name string
	kids [3]int
}

func newDraft(g *Graph) *draft { return &draft{g: g, marks: map[shape]int{}} }

// place is the mark of a sound expression.
func (d *draft) place(e []api.Node) int {
	marks := make([]int, len(e))
	for i, n := range e {
		marks[i] = d.mark(withKids(n, func(at int) int { return marks[at] }))
	}
	return marks[len(e)-1]
}

// withKids is a node with other Kids, in a list of its own.
func withKids(n api.Node, other func(kid int) int) api.Node {
	kids := make([]int, len(n.Kids))
	for i, kid := range n.Kids {
		kids[i] = other(kid)
	}
	n.Kids = kids
	return n
}

// mark is the mark of a node, whose Kids are marks.
func (d *draft) mark(n api.Node) int {
	if id, there := d.g.standing(n); there {
		return id
	}
	s := shape{op: n.Op, n: n.N, name: n.Name}
	copy(s.kids[:], n.Kids)
	mark, there := d.marks[s]
	if !there {
		d.fresh = append(d.fresh, n)
		mark = -len(d.fresh)
		d.marks[s] = mark
	}
	return mark
}

// keep puts the nodes that the graph lacks in, each into a class of its own, and answers their entries in the order of their marks.
func (d *draft) keep() []int {
	var ids []int
	for _, n := range d.fresh {
		// There is room for it: see tidy.
		id, _ := d.g.seat(withKids(n, func(mark int) int { return settled(mark, ids) }), none)
		ids = append(ids, id)
	}
	return ids
}

// settled is the entry of a mark, where ids are those of the nodes that the graph lacked.
func settled(mark int, ids []int) int {
	if mark < 0 {
		return ids[-1-mark]
	}
	return mark
}
