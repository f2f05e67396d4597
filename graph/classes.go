package graph

import "sorrel/api"

// seat is what a graph knows of an entry of its table. One entry of each class stands for it. An entry is live, if all its Kids stand for their classes: the live entries are the nodes of the graph, each once, and so the table finds the class of any node. An entry that has lost a Kid to another class comes again with the entry that stands for that class now, and is not live any more, for good.
type seat struct {
	known  bool  // false, where the entry was put into the table past the graph
	live   bool  // it is a node of its class
	up     int   // an entry of the same class, nearer to the one that stands for it; this one itself, if it does
	weight int   // how much has come to the class that it stands for: members, and nodes that they are Kids of
	uses   []int // the entries that have this one as a Kid, as often as they do; some of them may not be live any more
}

// none is no entry, no number of a class, and no place of a node.
const none = -1

// roomy is how many entries that are not live a table may have beside as many as there are live ones.
const roomy = 1000

func (g *Graph) known(id int) bool { return id < len(g.seats) && g.seats[id].known }

// stands is the entry that stands for the class of a known entry.
func (g *Graph) stands(id int) int {
	for g.seats[id].up != id {
		id = g.seats[id].up
	}
	return id
}

// standing is the entry that stands for the class of a node, whose Kids stand for theirs, if the graph has that node.
func (g *Graph) standing(n api.Node) (int, bool) {
	id, bad := g.Find(n)
	if bad != api.OK || !g.known(id) {
		return 0, false
	}
	return g.stands(id), true
}

// seat puts a node, whose Kids stand for their classes, into the class that an entry stands for, where that is none into one of its own, unless it is a node of the graph already. The answer is its entry.
func (g *Graph) seat(n api.Node, class int) (int, api.Errno) {
	id, bad := g.Put(n)
	if bad != api.OK || g.known(id) {
		return id, bad
	}
	for len(g.seats) <= id {
		g.seats = append(g.seats, seat{})
	}
	if class == none {
		class = id
		g.classes++
	}
	g.nodes++
	g.seats[id] = seat{known: true, live: true, up: class}
	g.seats[class].weight++
	for _, kid := range n.Kids {
		g.seats[kid].weight++
		g.seats[kid].uses = append(g.seats[kid].uses, id)
	}
	return id, api.OK
}

// join makes the classes of two known entries one, and then all that have to be one since.
func (g *Graph) join(a, b int) {
	pairs := [][2]int{{a, b}}
	for len(pairs) > 0 {
		last := pairs[len(pairs)-1]
		pairs = append(pairs[:len(pairs)-1], g.link(last[0], last[1])...)
	}
}

// link makes the classes of two known entries one. It answers the pairs of entries that are one node since then, though of two classes.
func (g *Graph) link(a, b int) [][2]int {
	lost, kept := g.stands(a), g.stands(b)
	if lost == kept {
		return nil
	}
	// The lighter class comes to the heavier one: so the weight about an entry that moves is doubled at least, and none moves often.
	if g.seats[lost].weight > g.seats[kept].weight {
		lost, kept = kept, lost
	}
	uses := g.seats[lost].uses
	g.seats[lost].uses = nil
	g.seats[lost].up = kept
	g.seats[kept].weight += g.seats[lost].weight
	g.classes--
	var twins [][2]int
	for _, id := range uses {
		if !g.seats[id].live {
			continue
		}
		if now := g.renew(id); g.stands(now) != g.stands(id) {
			twins = append(twins, [2]int{id, now})
		}
	}
	return twins
}

// renew takes the place of a live entry, of whose Kids one stands for its class no more, from it, and gives it to the entry with the Kids that do, which is answered.
func (g *Graph) renew(id int) int {
	g.seats[id].live = false
	g.nodes--
	n, _ := g.Node(id)
	// There is room for it: see tidy.
	now, _ := g.seat(withKids(n, g.stands), g.stands(id))
	return now
}

// tidy takes the entries that are not live out of the table, if they are many. It goes ahead of all that is put in. So a table has at most 2*MaxNodes+roomy entries then, 2*MaxTerm come to them, and at most MaxNodes entries are renewed, each for each of its three Kids no more often than a weight can be doubled: as a table of MaxIds entries makes weights of 4*MaxIds = 2^22 in all, that is 22 times. That all is far below MaxIds, so there is always room.
func (g *Graph) tidy() {
	if g.Len() > 2*g.nodes+roomy {
		*g = *g.tidied()
	}
}

// tidied is a graph of its own with the same in it, all of whose entries are live.
func (g *Graph) tidied() *Graph {
	h := New()
	other := make([]int, len(g.seats)) // by the entry that stands for a class here, the one there
	for i := range other {
		other[i] = none
	}
	moved := func(id int) int { return other[g.stands(id)] }
	// The Kids of an entry are earlier ones, so that their classes are there already.
	for id, n := range g.All() {
		if !g.known(id) {
			continue
		}
		now, _ := h.seat(withKids(n, moved), moved(id))
		if moved(id) == none {
			other[g.stands(id)] = now
		}
	}
	for _, root := range g.roots {
		h.roots = append(h.roots, moved(root))
	}
	return h
}
