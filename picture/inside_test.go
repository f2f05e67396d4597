package picture_test

import (
	"math"
	"math/rand"
	"slices"
	"testing"

	"sorrel/api"
	"sorrel/graph"
	"sorrel/picture"
)

// P12.5

// inside holds Inside against what it has to answer.
func inside(t *testing.T, p, q api.Picture, want bool) {
	t.Helper()
	if ok, bad := picture.Inside(p, q); ok != want || bad != api.OK {
		t.Fatalf("Inside(%s, %s) = %v, %d, want %v", text(p), text(q), ok, bad, want)
	}
}

func TestInside(t *testing.T) {
	for _, c := range []struct {
		p, q        []string
		there, back bool
	}{
		{nil, nil, true, true},
		{nil, []string{"a"}, true, false},
		{[]string{"a"}, []string{"a"}, true, true},
		{[]string{"a"}, []string{"b"}, false, false},
		{[]string{"a"}, []string{"a", "b"}, true, false},
		{[]string{"a", "b"}, []string{"a = b"}, true, false},
		{[]string{"a+1"}, []string{"a+1", "a = b"}, true, false},
		{[]string{"a+1", "b+1"}, []string{"a+1", "a = b"}, true, false},
		{[]string{"a+1", "c"}, []string{"a+1", "a = b"}, false, false},
		{[]string{"a = b", "c"}, []string{"a", "b = c"}, false, false},
		{[]string{"a = b", "c = d"}, []string{"a = b", "c = d", "a = c"}, true, false},
		{[]string{"a+1+1"}, []string{"a = a+1"}, true, false},
		{[]string{"a+1+1 = a"}, []string{"a = a+1"}, true, false},
		{[]string{"-(-(-a)) = a"}, []string{"-(-a) = a"}, false, false},
		{[]string{"-(-(-(-a))) = a"}, []string{"-(-a) = a"}, true, false},
		{[]string{"-a"}, []string{"~a"}, false, false},
		{[]string{"a-b"}, []string{"b-a"}, false, false},
		{[]string{"a-b = b-a"}, []string{"a-b", "b-a"}, false, true},
		{[]string{"a-b", "b-a"}, []string{"a = b", "a-a"}, true, false},
		{[]string{"x = 1", "y = 2"}, []string{"x = 2", "y = 1"}, false, false},
		{[]string{"a*(b+c) = 5"}, []string{"a*(b+c) = 5", "b+c = 7"}, true, false},
		{[]string{"a*(b+c) = 5"}, []string{"a*7 = 5", "b+c = 7"}, true, false},
		{[]string{"a*(b+c) = 5"}, []string{"a*7 = 6", "b+c = 7", "5"}, false, false},
	} {
		p, q := told(t, c.p...), told(t, c.q...)
		inside(t, p, q, c.there)
		inside(t, q, p, c.back)
		inside(t, p, p, true)
		inside(t, q, q, true)
	}
}

// TestInsideAsideFromRoots: roots do not count, neither where they are the same nor where they are not.
func TestInsideAsideFromRoots(t *testing.T) {
	p, q := told(t, "a+1", "b"), told(t, "b", "a+1", "a+1")
	inside(t, p, q, true)
	inside(t, q, p, true)
	q.Roots = nil
	inside(t, p, q, true)
	inside(t, q, p, true)
	q = told(t, "a+1", "b", "c")
	q.Roots = []int{0, 0, 0, 0, 0}
	inside(t, p, q, true)
	inside(t, q, p, false)
	inside(t, told(t, "a"), told(t, "b"), false)
}

// TestInsideByChance: pictures with more in them, with more equal, with nodes taken away, and any others, against two other reckonings.
func TestInsideByChance(t *testing.T) {
	r := rand.New(rand.NewSource(1204))
	many := [2]int{}
	for round := range 3000 {
		ops := opsOf(round)
		p := chance(r, 4, 0, fewLeaves, ops)
		q := p
		switch round % 4 {
		case 0:
			q = chance(r, 4, 0, fewLeaves, ops)
		case 1, 2:
			q = grown(t, r, p, ops)
		case 3:
			q = shrunk(r, grown(t, r, p, ops))
		}
		if r.Intn(2) == 0 {
			p, q = q, p
		}
		want := insideByTerms(p, q)
		inside(t, p, q, want)
		if math.Pow(float64(len(q.Classes)), float64(len(p.Classes))) < 2000 && insideByAll(p, q) != want {
			t.Fatalf("%s in %s: the reckonings do not agree", text(p), text(q))
		}
		followed(t, p, q, want)
		if want {
			many[0]++
		} else {
			many[1]++
		}
	}
	if many[0] < 500 || many[1] < 500 {
		t.Errorf("%d were inside, %d were not", many[0], many[1])
	}
}

// grown is a picture to which expressions have come, of which some are told to be equal to others.
func grown(t *testing.T, r *rand.Rand, p api.Picture, ops []int) api.Picture {
	t.Helper()
	g, bad := graph.Of(p)
	if bad != api.OK {
		t.Fatal(bad)
	}
	all := slices.Concat(every(3, fewLeaves, ops)...)
	some := func() []api.Node { return all[r.Intn(len(all))] }
	for range r.Intn(3) {
		if r.Intn(3) > 0 {
			bad = g.Merge(some(), some())
		} else {
			bad = g.Add(some())
		}
		if bad != api.OK {
			t.Fatal(bad)
		}
	}
	q, bad := g.Picture()
	if bad != api.OK {
		t.Fatal(bad)
	}
	return q
}

// shrunk is a picture without one of its nodes.
func shrunk(r *rand.Rand, p api.Picture) api.Picture {
	nodes := nodesOf(p)
	if len(nodes) == 0 {
		return p
	}
	c := r.Intn(len(nodes))
	at := r.Intn(len(nodes[c]))
	nodes[c] = slices.Delete(slices.Clone(nodes[c]), at, at+1)
	return drawn(nodes)
}

// followed holds what follows where one picture is inside another.
func followed(t *testing.T, p, q api.Picture, there bool) {
	t.Helper()
	inside(t, p, p, true)
	if !there {
		return
	}
	for c := range p.Classes {
		it, bad := picture.Terms(p, c, 3)
		if bad != api.OK {
			t.Fatal(bad)
		}
		at := -1
		for e := range it {
			to, bad := picture.Class(q, e)
			if bad != api.OK || at >= 0 && to != at {
				t.Fatalf("%v is of class %d, %d of %s", e, to, bad, text(q))
			}
			at = to
		}
	}
	if back, _ := picture.Inside(q, p); back != (text(pic(p.Classes...)) == text(pic(q.Classes...))) {
		t.Fatalf("both ways is %v of %s and %s", back, text(p), text(q))
	}
}

// TestInsideOfGreatPictures: classes above MaxTerm nodes, and pictures at the limits.
func TestInsideOfGreatPictures(t *testing.T) {
	a, both := tower(vari("a"), 29), tower(vari("a"), 29)
	both.Classes[0].Nodes = append(both.Classes[0].Nodes, vari("b"))
	inside(t, a, a, true)
	inside(t, a, both, true)
	inside(t, both, a, false)
	inside(t, tower(vari("a"), 28), a, true)
	inside(t, a, tower(vari("a"), 28), false)
	inside(t, a, tower(vari("b"), 29), false)
	inside(t, tower(vari("b"), 29), both, true)
	ring := tower(vari("a"), 3)
	ring.Classes[0].Nodes = append(ring.Classes[0].Nodes, do(api.OpAdd, 3, 3))
	accepted(t, "a ring", ring)
	inside(t, a, ring, true)
	inside(t, ring, a, false)
	inside(t, line(200), line(201), true)
	inside(t, line(201), line(200), false)
	inside(t, line(api.MaxClasses), pic(class(1, vari("v"), do(api.OpNeg, 0))), true)
	inside(t, pairs(api.MaxClasses), heap(api.MaxNodes), true)
	inside(t, heap(api.MaxNodes), pairs(api.MaxClasses), false)
	inside(t, heap(api.MaxNodes), heap(api.MaxNodes), true)
	inside(t, heap(api.MaxNodes), heap(api.MaxNodes-1), false)
	inside(t, heap(api.MaxNodes-1), heap(api.MaxNodes), true)
}
