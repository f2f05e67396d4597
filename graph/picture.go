package graph

import (
	"cmp"
	"container/heap"
	"slices"

	"sorrel/api"
	"sorrel/runes"
)

// Picture: the graph's classes and nodes.
func (g *Graph) Picture() (api.Picture, api.Errno) {
	if g == nil {
		return api.Picture{}, api.ErrArg
	}
	d := begin(g)
	for d.ready.Len() > 0 {
		if bad := d.draw(); bad != api.OK {
			return api.Picture{}, bad
		}
	}
	return d.finish(), api.OK
}

// drawing is a picture in the making. A node is ready as soon as the classes of its Kids have numbers: then it is known what its Kids are in the picture, and what its least expression is. Of all that are ready the one with the least expression goes first. None that gets ready later comes to less; so, if its class has no number yet, that is the least expression of the class, and the next number is the class's own.
type drawing struct {
	g       *Graph
	classes []api.Class
	numbers []int // of the class that an entry stands for; none, as long as it has none
	waits   []int // how many of an entry's Kids have no number yet
	ready   queue
}

// begin is a drawing in which nothing has a number yet.
func begin(g *Graph) *drawing {
	d := &drawing{g: g, numbers: make([]int, len(g.seats)), waits: make([]int, len(g.seats))}
	for id, n := range g.All() {
		if !g.known(id) {
			continue
		}
		d.numbers[id] = none
		d.waits[id] = len(n.Kids)
		if len(n.Kids) == 0 {
			d.line(id)
		}
	}
	return d
}

// line lines a live entry up, as it is ready.
func (d *drawing) line(id int) {
	n, _ := d.g.Node(id)
	n = withKids(n, d.number)
	heap.Push(&d.ready, spot{n, sizeOf(n, d.classes), d.g.stands(id)})
}

// number is that of the class of an entry.
func (d *drawing) number(id int) int { return d.numbers[d.g.stands(id)] }

// sizeOf is the size of the least expression of a node, whose Kids are numbers of classes.
func sizeOf(n api.Node, classes []api.Class) int {
	size := 1
	for _, kid := range n.Kids {
		size += classes[kid].Size
	}
	return size
}

// draw takes the next node into the picture.
func (d *drawing) draw() api.Errno {
	s := d.ready.next()
	if d.numbers[s.class] == none {
		if s.size >= api.MaxSize {
			return api.ErrLarge
		}
		d.numbers[s.class] = len(d.classes)
		d.classes = append(d.classes, api.Class{Size: s.size})
		d.tell(s.class)
	}
	c := &d.classes[d.numbers[s.class]]
	c.Nodes = append(c.Nodes, s.node)
	return api.OK
}

// tell lines up the entries that have waited for the number of a class and for nothing else.
func (d *drawing) tell(class int) {
	for _, id := range d.g.seats[class].uses {
		if !d.g.seats[id].live {
			continue
		}
		if d.waits[id]--; d.waits[id] == 0 {
			d.line(id)
		}
	}
}

// finish is the picture, now that all nodes are in it.
func (d *drawing) finish() api.Picture {
	for _, c := range d.classes {
		slices.SortFunc(c.Nodes, order)
	}
	p := api.Picture{Classes: d.classes}
	for _, root := range d.g.roots {
		p.Roots = append(p.Roots, d.number(root))
	}
	return p
}

// order tells which of two nodes comes first in a class.
func order(a, b api.Node) int {
	return cmp.Or(
		cmp.Compare(a.Op, b.Op),
		cmp.Compare(a.N, b.N),
		runes.Order(a.Name, b.Name),
		slices.Compare(a.Kids, b.Kids),
	)
}

// spot is a node whose Kids are numbers of classes.
type spot struct {
	node  api.Node
	size  int // of its least expression
	class int // the entry that stands for its class
}

// less tells whether the least expression of s comes ahead of that of t. As classes are numbered in the order of theirs, the parts can be held against each other by the numbers alone.
func (s spot) less(t spot) bool {
	return cmp.Or(cmp.Compare(s.size, t.size), order(s.node, t.node)) < 0
}

// queue is spots as a heap of the library's, the least one first.
type queue []spot

func (q queue) Len() int           { return len(q) }
func (q queue) Less(i, j int) bool { return q[i].less(q[j]) }
func (q queue) Swap(i, j int)      { q[i], q[j] = q[j], q[i] }
func (q *queue) Push(x any)        { *q = append(*q, x.(spot)) }

func (q *queue) Pop() any {
	last := len(*q) - 1
	s := (*q)[last]
	*q = (*q)[:last]
	return s
}

func (q *queue) next() spot { return heap.Pop(q).(spot) }
