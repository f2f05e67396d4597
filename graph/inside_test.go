package graph

import (
	"math/rand"
	"testing"

	"sorrel/api"
)

// What can't be asked from outside: no expression names a class whose Size is above MaxTerm, and no class comes to be of which none is told; so the calls alone lead to no class of Size MaxSize.

// doubled is a graph of a leaf, and sums of it with itself, so often.
func doubled(t *testing.T, levels int) *Graph {
	t.Helper()
	g := New()
	if bad := g.Add([]api.Node{{Op: api.OpVar, Name: "a"}}); bad != api.OK {
		t.Fatal(bad)
	}
	id := g.roots[0]
	for range levels {
		var bad api.Errno
		id, bad = g.seat(api.Node{Op: api.OpAdd, Kids: []int{id, id}}, none)
		if bad != api.OK {
			t.Fatal(bad)
		}
	}
	g.roots = append(g.roots, id)
	return g
}

func TestPictureAboutMaxSize(t *testing.T) {
	for _, levels := range []int{28, 29} {
		p, bad := doubled(t, levels).Picture()
		if bad != api.OK || len(p.Classes) != levels+1 || p.Classes[levels].Size != 2<<levels-1 {
			t.Errorf("%d levels: %d, %d classes", levels, bad, len(p.Classes))
		}
	}
	for _, levels := range []int{30, 31, 62, 63, 64, 65, 200} {
		g := doubled(t, levels)
		for _, h := range []*Graph{g, g.Copy(), g} {
			if p, bad := h.Picture(); bad != api.ErrLarge || len(p.Classes) != 0 || len(p.Roots) != 0 {
				t.Errorf("%d levels: %d, %v", levels, bad, p)
			}
		}
	}
	// Size MaxSize itself, and one below it.
	g := doubled(t, 29)
	id, _ := g.seat(api.Node{Op: api.OpNeg, Kids: []int{g.roots[1]}}, none)
	if _, bad := g.Picture(); bad != api.ErrLarge {
		t.Errorf("Size MaxSize: %d", bad)
	}
	// A node that comes to more stands beside a least one.
	g.join(id, g.roots[0])
	p, bad := g.Picture()
	if bad != api.OK || len(p.Classes) != 30 || len(p.Classes[0].Nodes) != 2 || p.Classes[29].Size != api.MaxSize-1 {
		t.Errorf("%d, %d classes", bad, len(p.Classes))
	}
	h, bad := Of(p)
	if bad != api.OK || h.classes != 30 || h.nodes != 31 {
		t.Errorf("Of: %d", bad)
	}
}

// held goes through what is to hold of a graph between two calls.
func held(t *testing.T, g *Graph) {
	t.Helper()
	classes, nodes := 0, 0
	uses := map[[2]int]int{}
	for id, n := range g.All() {
		if !g.known(id) {
			continue
		}
		if g.stands(id) == id {
			classes++
		}
		live := true
		for _, kid := range n.Kids {
			live = live && g.stands(kid) == kid
		}
		if live != g.seats[id].live {
			t.Fatalf("entry %d, %v: live is %v", id, n, g.seats[id].live)
		}
		if !live {
			continue
		}
		nodes++
		for _, kid := range n.Kids {
			uses[[2]int{kid, id}]++
		}
	}
	for kid, s := range g.seats {
		for _, id := range s.uses {
			if g.seats[id].live {
				uses[[2]int{kid, id}]--
			}
		}
	}
	for use, many := range uses {
		if many != 0 {
			t.Fatalf("entry %d uses %d %d times more often than is told", use[1], use[0], many)
		}
	}
	p, bad := g.Picture()
	if bad != api.OK {
		t.Fatal(bad)
	}
	drawn := 0
	for _, c := range p.Classes {
		drawn += len(c.Nodes)
	}
	if g.classes != classes || g.nodes != nodes || len(p.Classes) != classes || drawn != nodes {
		t.Fatalf("%d classes and %d nodes are told, %d and %d are there, %d and %d in the picture", g.classes, g.nodes, classes, nodes, len(p.Classes), drawn)
	}
}

func TestHeldBetweenCalls(t *testing.T) {
	r := rand.New(rand.NewSource(141))
	some := func() []api.Node {
		e := []api.Node{{Op: api.OpVar, Name: string(rune('a' + r.Intn(8)))}}
		for range r.Intn(6) {
			switch last := len(e) - 1; r.Intn(3) {
			case 0:
				e = append(e, api.Node{Op: api.OpNeg, Kids: []int{last}})
			case 1:
				e = append(e, api.Node{Op: api.OpLit, N: int64(r.Intn(4))}, api.Node{Op: api.OpSub, Kids: []int{last, last + 1}})
			case 2:
				e = append(e, api.Node{Op: api.OpVar, Name: "a"}, api.Node{Op: api.OpLit}, api.Node{Op: api.OpIf, Kids: []int{last, last + 1, last + 2}})
			}
		}
		return e
	}
	for range 60 {
		g := New()
		for range 60 {
			if bad := g.Merge(some(), some()); bad != api.OK {
				t.Fatal(bad)
			}
			held(t, g)
			if r.Intn(10) == 0 {
				g = g.Copy()
				held(t, g)
				if g.Len() != g.nodes {
					t.Fatalf("a copy has %d entries, and %d nodes", g.Len(), g.nodes)
				}
			}
			g.Add(some())
		}
	}
}

// TestTidy: a table does not grow, while the nodes of the graph do not.
func TestTidy(t *testing.T) {
	r := rand.New(rand.NewSource(142))
	g := New()
	for i := range 4000 {
		v := []api.Node{{Op: api.OpVar, Name: string(rune('a' + r.Intn(26)))}}
		e := v
		for k := range 1 + r.Intn(api.MaxTerm-1) {
			e = append(e, api.Node{Op: api.OpNeg + (i+k)%2, Kids: []int{k}})
		}
		if bad := g.Merge(e, v); bad != api.OK {
			t.Fatal(bad)
		}
		g.tidy()
		if g.Len() > 2*g.nodes+roomy {
			t.Fatalf("%d entries, %d nodes", g.Len(), g.nodes)
		}
	}
	held(t, g)
}

// depth is the greatest number of steps from an entry up to the one that stands for its class.
func depth(g *Graph) int {
	most := 0
	for id := range g.seats {
		steps := 0
		for ; g.seats[id].known && g.seats[id].up != id; id = g.seats[id].up {
			steps++
		}
		most = max(most, steps)
	}
	return most
}

// TestTheLighterComes: whichever way about, a class with few uses comes to one with many, and none is far from the entry that stands for it.
func TestTheLighterComes(t *testing.T) {
	const many = 1000
	leaf := func(i int) []api.Node { return []api.Node{{Op: api.OpLit, N: int64(i)}} }
	for _, turned := range []bool{false, true} {
		g := New()
		for i := range many {
			if bad := g.Add([]api.Node{leaf(0)[0], leaf(i)[0], {Op: api.OpSub, Kids: []int{0, 1}}}); bad != api.OK {
				t.Fatal(bad)
			}
		}
		merge := func(i, k int) {
			if turned {
				i, k = k, i
			}
			if bad := g.Merge(leaf(i), leaf(k)); bad != api.OK {
				t.Fatal(bad)
			}
		}
		chain := func(from, to int) {
			for i := from; i < to; i++ {
				merge(i, i+1)
			}
		}
		chain(many, many+20)
		ahead := g.Len()
		merge(0, many) // The members of the other class are more, but have no uses.
		if more := g.Len() - ahead; more > 0 {
			t.Errorf("%d entries were renewed", more)
		}
		chain(0, many-1)
		if more := g.Len() - ahead; more > many {
			t.Errorf("%d entries were renewed", more)
		}
		held(t, g)
		g = New()
		chain(0, many)
		if d := depth(g); d > 2 {
			t.Errorf("an entry is %d steps from the one that stands for its class", d)
		}
	}
}
