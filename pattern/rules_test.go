package pattern_test

import (
	"fmt"
	"math/rand"
	"slices"
	"strings"
	"testing"

	"sorrel/api"
	"sorrel/pattern"
)

// The rules that hold for all calls.

// full is a list with all its spare room.
func full[T any](l []T) []T { return l[:cap(l)] }

// roomy is a copy of a list with spare room, in which something stands.
func roomy[T any](l []T, spare ...T) []T {
	return append(slices.Clone(l), spare...)[:len(l)]
}

// roomyNodes is a copy of nodes whose lists all have spare room.
func roomyNodes(l []api.Node) []api.Node {
	out := roomy(l, lit(90).Node, hole("spare").Node, api.Node{Op: api.OpNeg, Kids: []int{0}})
	for i := range out {
		out[i].Kids = roomy(out[i].Kids, 0, 1, 0)
	}
	return out
}

// roomyLists is a copy of lists of nodes that all have spare room.
func roomyLists(lists [][]api.Node) [][]api.Node {
	out := roomy(lists, lit(91).nodes(), nil, hole("spare").nodes())
	for i := range lists {
		out[i] = roomyNodes(lists[i])
	}
	return out
}

// all is everything that stands in nodes, spare room too.
func all(l []api.Node) string {
	var s strings.Builder
	fmt.Fprintln(&s, len(l))
	for _, n := range full(l) {
		fmt.Fprintln(&s, n.Op, n.N, n.Name, len(n.Kids), full(n.Kids))
	}
	return s.String()
}

// allOf is everything that stands in lists of nodes, spare room too.
func allOf(lists [][]api.Node) string {
	s := fmt.Sprintln(len(lists))
	for _, l := range full(lists) {
		s += all(l)
	}
	return s
}

// ask makes all calls, and writes their answers out.
func ask(p []api.Node, with [][]api.Node, e []api.Node) string {
	bad := pattern.Check(p)
	names, badHoles := pattern.Holes(p)
	filled, badFill := pattern.Fill(p, with)
	found, badFits := pattern.Fits(p, e)
	return fmt.Sprintf("%d; %q %d; %s %d; %d %s %d", bad, names, badHoles, text(filled), badFill, len(found), texts(found), badFits)
}

// left holds that what is handed in is not changed, sound or not, spare room included, and that what stands in that is not looked at.
func left(t *testing.T, p []api.Node, with [][]api.Node, e []api.Node) {
	t.Helper()
	a, b, c := roomyNodes(p), roomyLists(with), roomyNodes(e)
	was := all(a) + allOf(b) + all(c)
	if is, want := ask(a, b, c), ask(p, with, e); is != want {
		t.Fatalf("%s, want %s", is, want)
	}
	if all(a)+allOf(b)+all(c) != was {
		t.Fatalf("what was handed in is changed: %s; %s; %s", text(p), texts(with), text(e))
	}
}

// question is a pattern, what it is filled with and what that makes.
func question(r *rand.Rand) (p []api.Node, with [][]api.Node, e []api.Node) {
	open := chance(r, leaves(r.Intn(5)), 1+r.Intn(12))
	var parts []tree
	for range open.names() {
		parts = append(parts, chance(r, leaves(0), 1+r.Intn(4)))
	}
	return open.nodes(), lists(parts...), open.filled(open.names(), parts).nodes()
}

func TestHandedInIsLeft(t *testing.T) {
	r := rand.New(rand.NewSource(1411))
	for range 1000 {
		p, with, e := question(r)
		left(t, p, with, e)
		left(t, p, with, p)
		left(t, p, append(with, e), e)
	}
	one := lit(1).nodes()
	for _, l := range faults() {
		left(t, l, [][]api.Node{one}, one)
		left(t, hole("a").nodes(), [][]api.Node{l}, l)
		left(t, l, [][]api.Node{l, one}, l)
	}
}

// owners tells who has which piece of memory.
type owners map[any]string

// claim holds that the memory of a list, spare room too, is nobody's yet.
func claim[T any](t *testing.T, o owners, who string, l []T) {
	t.Helper()
	for i := range full(l) {
		cell := &full(l)[i]
		if was, there := o[cell]; there {
			t.Fatalf("%s shares memory with %s", who, was)
		}
		o[cell] = who
	}
}

// claimNodes is claim for nodes and all their Kids.
func claimNodes(t *testing.T, o owners, who string, l []api.Node) {
	t.Helper()
	claim(t, o, who, l)
	for i, n := range full(l) {
		claim(t, o, fmt.Sprint(who, ", kids of ", i), n.Kids)
	}
}

// claimLists is claim for lists of nodes and all that is in them.
func claimLists(t *testing.T, o owners, who string, lists [][]api.Node) {
	t.Helper()
	claim(t, o, who, lists)
	for i, l := range full(lists) {
		claimNodes(t, o, fmt.Sprint(who, ", list ", i), l)
	}
}

// scribble writes over nodes and their Kids, spare room too.
func scribble(l []api.Node) {
	for i, n := range full(l) {
		for k := range full(n.Kids) {
			full(n.Kids)[k] = -7
		}
		full(l)[i] = api.Node{Op: 77, N: 77, Name: "77", Kids: []int{77}}
	}
}

func scribbleLists(lists [][]api.Node) {
	for i, l := range full(lists) {
		scribble(l)
		full(lists)[i] = nil
	}
}

// TestAnswersHaveTheirOwnMemory: no answer shares any with what was handed in, with another one, or in itself.
func TestAnswersHaveTheirOwnMemory(t *testing.T) {
	r := rand.New(rand.NewSource(1412))
	for range 500 {
		p, with, e := question(r)
		p, with, e = roomyNodes(p), roomyLists(with), roomyNodes(e)
		o := owners{}
		claimNodes(t, o, "the pattern", p)
		claimLists(t, o, "the parts", with)
		claimNodes(t, o, "the expression", e)
		for round := range 3 {
			names, _ := pattern.Holes(p)
			claim(t, o, fmt.Sprint("Holes ", round), names)
			filled, _ := pattern.Fill(p, with)
			claimNodes(t, o, fmt.Sprint("Fill ", round), filled)
			found, _ := pattern.Fits(p, e)
			claimLists(t, o, fmt.Sprint("Fits ", round), found)
		}
	}
}

// TestOnePartForTwoHoles: the same list may be handed in for several holes, and for the pattern and the expression too.
func TestOnePartForTwoHoles(t *testing.T) {
	x := read(t, "x * 2")
	p := pat(t, "@a + @b - @a")
	want := read(t, "x*2 + x*2 - x*2")
	e, bad := pattern.Fill(p, [][]api.Node{x, x})
	if text(e) != text(want) || bad != api.OK {
		t.Fatalf("%s, %d", text(e), bad)
	}
	o := owners{}
	claimNodes(t, o, "the part", x)
	claimNodes(t, o, "the answer", e)
	found, bad := pattern.Fits(p, want)
	if texts(found) != texts([][]api.Node{x, x}) || bad != api.OK {
		t.Fatalf("%s, %d", texts(found), bad)
	}
	claimNodes(t, o, "the expression", want)
	claimLists(t, o, "the holes", found)
	fits(t, "the same list as pattern and expression", x, x, nil, api.OK)
	fills(t, "the same list as pattern and part", x, [][]api.Node{x}, nil, api.ErrArg)
	h := pat(t, "@a")
	fills(t, "a hole into itself", h, [][]api.Node{h}, nil, api.ErrForm)
	fits(t, "a hole and itself", h, h, nil, api.ErrForm)
}

// TestWrittenOver: what is written into an answer, spare room too, is in no other one, nor in what was handed in.
func TestWrittenOver(t *testing.T) {
	r := rand.New(rand.NewSource(1413))
	for range 300 {
		p, with, e := question(r)
		was, wasIn := ask(p, with, e), all(p)+allOf(with)+all(e)
		names, _ := pattern.Holes(p)
		filled, _ := pattern.Fill(p, with)
		found, _ := pattern.Fits(p, e)
		again, _ := pattern.Fits(p, e)
		for i := range full(names) {
			full(names)[i] = "77"
		}
		scribble(filled)
		scribbleLists(found)
		if texts(again) != texts(with) {
			t.Fatalf("%s, want %s", texts(again), texts(with))
		}
		if is := ask(p, with, e); is != was || all(p)+allOf(with)+all(e) != wasIn {
			t.Fatalf("%s, was %s", is, was)
		}
	}
}

// TestWrittenOverLater: what is written behind a call into what was handed in is not in its answer, and is in the next one.
func TestWrittenOverLater(t *testing.T) {
	p, with, e := pat(t, "@a + @b * @a - c"), reads(t, "x+1;2"), read(t, "(x + 2 * x) - c")
	names, _ := pattern.Holes(p)
	filled, _ := pattern.Fill(p, with)
	found, _ := pattern.Fits(p, e)
	scribble(p)
	scribbleLists(with)
	scribble(e)
	if !slices.Equal(names, []string{"a", "b"}) || text(filled) != text(read(t, "x+1 + 2*(x+1) - c")) || texts(found) != texts(reads(t, "x;2")) {
		t.Errorf("%q; %s; %s", names, text(filled), texts(found))
	}
	refused(t, "written over", p)
	p = pat(t, "@a + @b")
	holds(t, p, "a", "b")
	p[1].Name = "a"
	holds(t, p, "a")
	p[0].Op = api.OpVar
	holds(t, p, "a")
	p[1].Op = api.OpVar
	holds(t, p)
}

// TestNothingIsKept: what is asked of one thing is in no answer about another, and the same is answered again, in any row and at one time.
func TestNothingIsKept(t *testing.T) {
	r := rand.New(rand.NewSource(1414))
	var questions []func() string
	var want []string
	put := func(p []api.Node, with [][]api.Node, e []api.Node) {
		f := func() string { return ask(p, with, e) }
		questions, want = append(questions, f), append(want, f())
	}
	for range 100 {
		p, with, e := question(r)
		put(p, with, e)
		put(p, nil, negated(e))
	}
	for _, l := range faults() {
		put(l, [][]api.Node{l}, l)
	}
	for range 1000 {
		i := r.Intn(len(questions))
		if is := questions[i](); is != want[i] {
			t.Fatalf("%s, was %s", is, want[i])
		}
	}
	done := make(chan bool)
	for range 8 {
		go func() {
			ok := true
			for i, f := range questions {
				ok = ok && f() == want[i]
			}
			done <- ok
		}()
	}
	for range 8 {
		if !<-done {
			t.Error("another answer, where several ask at one time")
		}
	}
}

// negated is the negation of an expression.
func negated(e []api.Node) []api.Node {
	return append(slices.Clone(e), api.Node{Op: api.OpNeg, Kids: []int{len(e) - 1}})
}
