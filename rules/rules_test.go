package rules_test

import (
	"fmt"
	"math/rand"
	"slices"
	"strings"
	"testing"

	"sorrel/api"
	"sorrel/rules"
)

// The rules that hold for all calls.

// question is what the calls are asked.
type question struct {
	rule  int
	back  bool
	names []string
	known []api.Fact
	parts [][]api.Node
	p     api.Picture
	mask  uint64
}

// ruleText is a rule, written out.
func ruleText(r api.Rule) string { return fmt.Sprint(r.Name, text(r.Left, r.Right), r.Sides) }

// tableText is what All answers, written out.
func tableText() string {
	var s strings.Builder
	for _, r := range rules.All() {
		s.WriteString(ruleText(r))
	}
	return s.String()
}

// ask makes all calls, and writes their answers out.
func (q question) ask() string {
	var s strings.Builder
	s.WriteString(tableText())
	for _, name := range q.names {
		number, bad := rules.Named(name)
		fmt.Fprintln(&s, name, number, bad)
	}
	mask, bad := rules.Mask(q.names...)
	fmt.Fprintln(&s, mask, bad)
	ok, bad := rules.Holds(q.rule, q.known)
	fmt.Fprintln(&s, ok, bad)
	from, to, bad := rules.Apply(q.rule, q.back, q.parts)
	fmt.Fprintln(&s, text(from, to), bad)
	matches, bad := rules.Matches(q.p, q.mask)
	fmt.Fprintln(&s, len(matches), matches, bad)
	return s.String()
}

// full is a list with all its spare room.
func full[T any](l []T) []T { return l[:cap(l)] }

// roomy is a copy of a list with spare room, in which something stands.
func roomy[T any](l []T, spare ...T) []T {
	return append(slices.Clone(l), spare...)[:len(l)]
}

// roomyNodes is a copy of nodes whose lists all have spare room.
func roomyNodes(l []api.Node) []api.Node {
	out := roomy(l, lit(90), vari("spare"), do(api.OpNeg, 0))
	for i := range out {
		out[i].Kids = roomy(out[i].Kids, 0, 1, 0)
	}
	return out
}

// roomy is a copy of a question whose lists all have spare room.
func (q question) roomy() question {
	out := question{rule: q.rule, back: q.back, mask: q.mask}
	out.names = roomy(q.names, "all", "frob")
	out.known = roomy(q.known, api.Fact{Total: true, Const: true, N: 7}, api.Fact{})
	out.parts = roomy(q.parts, []api.Node{lit(91)}, nil, []api.Node{})
	for i, part := range q.parts {
		out.parts[i] = roomyNodes(part)
	}
	out.p.Classes = roomy(q.p.Classes, sized(1, lit(9)), sized(1, vari("spare")))
	for i, c := range q.p.Classes {
		out.p.Classes[i].Nodes = roomyNodes(c.Nodes)
	}
	out.p.Roots = roomy(q.p.Roots, 0, 1, -1)
	return out
}

// nodesText is everything that stands in nodes, spare room too.
func nodesText(l []api.Node) string {
	s := fmt.Sprintln(len(l))
	for _, n := range full(l) {
		s += fmt.Sprintln(n.Op, n.N, n.Name, len(n.Kids), full(n.Kids))
	}
	return s
}

// handed is everything that is handed in, spare room too.
func (q question) handed() string {
	s := fmt.Sprintln(len(q.names), full(q.names), len(q.known), full(q.known), len(q.parts), len(q.p.Roots), full(q.p.Roots), len(q.p.Classes))
	for _, part := range full(q.parts) {
		s += nodesText(part)
	}
	for _, c := range full(q.p.Classes) {
		s += fmt.Sprintln(c.Size) + nodesText(c.Nodes)
	}
	return s
}

// chanceQuestion is a random one, most often one that is answered without an error.
func chanceQuestion(t *testing.T, r *rand.Rand) question {
	t.Helper()
	rule := rows()[r.Intn(44)]
	q := question{rule: rule.number, back: r.Intn(2) == 0, p: chance(t, r, rule), mask: r.Uint64() | 1<<rule.number}
	for range r.Intn(4) {
		q.names = append(q.names, rows()[r.Intn(44)].name)
	}
	for range rule.holes() {
		q.known = append(q.known, factsOfAllKinds[r.Intn(len(factsOfAllKinds))])
	}
	q.parts = chanceParts(r, len(rule.holes()))
	return q
}

// broken is questions all of whose answers but All's are errors.
func broken() []question {
	var list []question
	for _, fault := range faults() {
		list = append(list, question{rule: 4, names: []string{"frob"}, parts: [][]api.Node{fault}, p: api.Picture{Roots: []int{0}}, mask: 1})
	}
	for what, spoil := range spoils() {
		p := base()
		if spoil(&p); what != "a million classes" {
			list = append(list, question{rule: 44, names: []string{"all", ""}, parts: [][]api.Node{{lit(1)}}, p: p, mask: allRules})
		}
	}
	return append(list, question{rule: 4, parts: [][]api.Node{long(64)}, p: crowd(30, 0, api.OpAdd, 601, false), mask: 1})
}

// left holds that what is handed in is not changed, and that what stands in spare room is not looked at.
func left(t *testing.T, q question) {
	t.Helper()
	other := q.roomy()
	was := other.handed()
	if is, want := other.ask(), q.ask(); is != want {
		t.Fatalf("%s, want %s", is, want)
	}
	if other.handed() != was {
		t.Fatalf("what was handed in is changed: %s", was)
	}
}

func TestHandedInIsLeft(t *testing.T) {
	r := rand.New(rand.NewSource(1741))
	for range 150 {
		left(t, chanceQuestion(t, r))
	}
	for _, q := range broken() {
		left(t, q)
	}
}

// TestBesideAnError: there is nothing else.
func TestBesideAnError(t *testing.T) {
	for _, q := range broken() {
		from, to, bad := rules.Apply(q.rule, q.back, q.parts)
		matches, worse := rules.Matches(q.p, q.mask)
		ok, worst := rules.Holds(q.rule, q.known)
		if len(from)+len(to)+len(matches) > 0 || ok || bad == api.OK || worse == api.OK || worst == api.OK {
			t.Errorf("%s, %d, %v, %d, %v, %d", text(from, to), bad, matches, worse, ok, worst)
		}
	}
}

// owners tells who has which piece of memory.
type owners map[any]string

// claim holds that the memory of a list, spare room too, is nobody's yet.
func claim[T any](t *testing.T, o owners, who string, l []T) {
	t.Helper()
	for i := range full(l) {
		cell := &full(l)[i]
		if was, there := o[cell]; there {
			t.Fatalf("%s shares memory with %s", who, was)
		}
		o[cell] = who
	}
}

// claimNodes is claim for lists of nodes, and all that is in them.
func claimNodes(t *testing.T, o owners, who string, lists ...[]api.Node) {
	t.Helper()
	for i, l := range lists {
		claim(t, o, fmt.Sprint(who, ", list ", i), l)
		for k, n := range full(l) {
			claim(t, o, fmt.Sprint(who, ", list ", i, ", kids of ", k), n.Kids)
		}
	}
}

// claimHandedIn is claim for all that a question hands in.
func claimHandedIn(t *testing.T, o owners, q question) {
	t.Helper()
	claim(t, o, "the names", q.names)
	claim(t, o, "the facts", q.known)
	claim(t, o, "the parts", q.parts)
	claimNodes(t, o, "the parts", full(q.parts)...)
	claim(t, o, "the picture", q.p.Classes)
	claim(t, o, "the roots", q.p.Roots)
	for _, c := range full(q.p.Classes) {
		claimNodes(t, o, "the picture", c.Nodes)
	}
}

// claimAnswers is claim for all lists that are answered.
func claimAnswers(t *testing.T, o owners, q question, round int) {
	t.Helper()
	all := rules.All()
	claim(t, o, fmt.Sprint("All ", round), all)
	for _, rule := range full(all) {
		claimNodes(t, o, fmt.Sprint("All ", round, ", ", rule.Name), rule.Left, rule.Right)
		claim(t, o, fmt.Sprint("All ", round, ", the sides of ", rule.Name), rule.Sides)
	}
	from, to, _ := rules.Apply(q.rule, q.back, q.parts)
	claimNodes(t, o, fmt.Sprint("Apply ", round), from, to)
	matches, _ := rules.Matches(q.p, q.mask)
	claim(t, o, fmt.Sprint("Matches ", round), matches)
	for i, m := range full(matches) {
		claim(t, o, fmt.Sprint("Matches ", round, ", holes of ", i), m.Holes)
	}
}

// TestAnswersHaveTheirOwnMemory: no answer shares any with what was handed in, with another one, or in itself.
func TestAnswersHaveTheirOwnMemory(t *testing.T) {
	r := rand.New(rand.NewSource(1742))
	for range 60 {
		q := chanceQuestion(t, r).roomy()
		o := owners{}
		claimHandedIn(t, o, q)
		for round := range 3 {
			claimAnswers(t, o, q, round)
		}
	}
	// One list may be handed in for several holes.
	for _, rule := range rows() {
		x := read(t, "-(2 + 1)")
		o := owners{}
		claimNodes(t, o, "the part", x)
		for round := range 2 {
			from, to, bad := rules.Apply(rule.number, round == 1, slices.Repeat([][]api.Node{x}, len(rule.holes())))
			if bad != api.OK {
				t.Fatalf("%s: %d", rule.name, bad)
			}
			claimNodes(t, o, fmt.Sprint(rule.name, " ", round), from, to)
		}
	}
}

// scribble writes over lists of nodes and their Kids, spare room too.
func scribble(lists ...[]api.Node) {
	for _, l := range lists {
		for i, n := range full(l) {
			for k := range full(n.Kids) {
				full(n.Kids)[k] = -7
			}
			full(l)[i] = api.Node{Op: 77, N: 77, Name: "77", Kids: []int{77}}
		}
	}
}

// scribbleAnswers asks for all lists, and writes over them.
func (q question) scribbleAnswers() {
	all := rules.All()
	for i, rule := range full(all) {
		scribble(rule.Left, rule.Right)
		for k := range full(rule.Sides) {
			full(rule.Sides)[k] = api.Side{Kind: 77, Hole: 77}
		}
		full(all)[i] = api.Rule{Name: "77"}
	}
	from, to, _ := rules.Apply(q.rule, q.back, q.parts)
	scribble(from, to)
	matches, _ := rules.Matches(q.p, q.mask)
	for i, m := range full(matches) {
		for k := range full(m.Holes) {
			full(m.Holes)[k] = -77
		}
		full(matches)[i] = api.Match{Rule: 77, Class: 77}
	}
}

// TestWrittenOver: what is written into an answer, spare room too, is in no later one, nor in what was handed in.
func TestWrittenOver(t *testing.T) {
	r := rand.New(rand.NewSource(1743))
	for range 100 {
		q := chanceQuestion(t, r).roomy()
		was, wasIn := q.ask(), q.handed()
		q.scribbleAnswers()
		if is := q.ask(); is != was || q.handed() != wasIn {
			t.Fatalf("%s, was %s", is, was)
		}
	}
}

// TestWrittenOverLater: what is written behind a call into what was handed in is not in its answer, and is in the next one.
func TestWrittenOverLater(t *testing.T) {
	x, y := read(t, "x + 1"), read(t, "y")
	parts := [][]api.Node{x, y}
	from, to, _ := rules.Apply(0, false, parts)
	scribble(x)
	y[0].Name = "z"
	parts[0] = y
	if text(from, to) != text(reads(t, "x + 1 + y", "y + (x + 1)")...) {
		t.Error(text(from, to))
	}
	if from, to, _ = rules.Apply(0, false, parts); text(from, to) != text(reads(t, "z + z", "z + z")...) {
		t.Error(text(from, to))
	}
	p := told(t, "x + 0")
	l, _ := rules.Matches(p, allRules)
	p.Classes[0].Nodes[0].N = 1
	if want := []api.Match{{Rule: 0, Class: 2, Holes: []int{1, 0}}, {Rule: 4, Class: 2, Holes: []int{1}}}; !sameMatches(l, want) {
		t.Error(l)
	}
	finds(t, p, allRules, api.Match{Rule: 0, Class: 2, Holes: []int{1, 0}})
	known := []api.Fact{{Total: true}}
	holds(t, 6, known, true, api.OK)
	known[0].Total = false
	holds(t, 6, known, false, api.OK)
	names := []string{"twice", "shift"}
	masks(t, 3<<14, api.OK, names...)
	names[0] = "none"
	masks(t, 1<<15, api.OK, names...)
}

// TestNothingIsKept: what is asked of one thing is in no answer about another, and the same is answered again, in any row and at one time.
func TestNothingIsKept(t *testing.T) {
	r := rand.New(rand.NewSource(1744))
	questions := broken()
	for range 40 {
		questions = append(questions, chanceQuestion(t, r))
	}
	var want []string
	for _, q := range questions {
		want = append(want, q.ask())
	}
	for range 200 {
		i := r.Intn(len(questions))
		if is := questions[i].ask(); is != want[i] {
			t.Fatalf("%s, was %s", is, want[i])
		}
	}
	done := make(chan bool)
	for range 8 {
		go func() {
			ok := true
			for i, q := range questions {
				ok = ok && q.ask() == want[i]
			}
			done <- ok
		}()
	}
	for range 8 {
		if !<-done {
			t.Error("another answer, where several ask at one time")
		}
	}
}
