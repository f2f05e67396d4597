package rounds_test

import (
	"fmt"
	"math/rand"
	"slices"
	"testing"

	"sorrel/api"
	"sorrel/rounds"
	"sorrel/rules"
)

// The rules that hold for all calls.

// question is what the calls are asked.
type question struct {
	p    api.Picture
	mask uint64
}

// ask makes both calls, and writes their answers out.
func (q question) ask() string {
	a, why, bad := rounds.Round(q.p, q.mask)
	s := fmt.Sprintln(drawing(a), why, bad)
	a, why, bad = rounds.Fold(q.p)
	return s + fmt.Sprintln(drawing(a), why, bad)
}

// full is a list with all its spare room.
func full[T any](l []T) []T { return l[:cap(l)] }

// roomy is a copy of a list with spare room, in which something stands.
func roomy[T any](l []T, spare ...T) []T {
	return append(slices.Clone(l), spare...)[:len(l)]
}

// roomyNodes is a copy of nodes whose lists all have spare room.
func roomyNodes(l []api.Node) []api.Node {
	out := roomy(l, lit(90), vari("spare"), do(api.OpNeg, 0))
	for i := range out {
		out[i].Kids = roomy(out[i].Kids, 0, 1, 0)
	}
	return out
}

// roomy is a copy of a question whose lists all have spare room.
func (q question) roomy() question {
	out := question{mask: q.mask}
	out.p.Classes = roomy(q.p.Classes, sized(1, lit(9)), sized(1, vari("spare")))
	for i, c := range q.p.Classes {
		out.p.Classes[i].Nodes = roomyNodes(c.Nodes)
	}
	out.p.Roots = roomy(q.p.Roots, 0, 1, -1)
	return out
}

// handed is everything that is handed in, spare room too.
func (q question) handed() string {
	s := fmt.Sprintln(len(q.p.Roots), full(q.p.Roots), len(q.p.Classes))
	for _, c := range full(q.p.Classes) {
		s += fmt.Sprintln(c.Size, len(c.Nodes))
		for _, n := range full(c.Nodes) {
			s += fmt.Sprintln(n.Op, n.N, n.Name, len(n.Kids), full(n.Kids))
		}
	}
	return s
}

// chanceQuestion is a random one, most often one that is answered by another picture.
func chanceQuestion(t *testing.T, r *rand.Rand) question {
	t.Helper()
	k := r.Intn(44)
	q := question{p: lefts(t, r, rules.All()[k]), mask: r.Uint64() | 1<<k}
	if r.Intn(3) == 0 {
		q.p = chance(t, r, 2)
	}
	return q
}

// ended is questions whose answers to Round are the pictures themselves.
func ended() []question {
	return []question{
		{crowd(30, api.OpAdd, 601, false), 1},
		{towers(vari("a"), vari("y"), 30, false), bits("sub-add")},
		{towers(vari("a"), vari("y"), 30, false), 0},
		{base(), 0},
		{api.Picture{}, allRules},
	}
}

// broken is questions all of whose answers are errors.
func broken() []question {
	var list []question
	for what, spoil := range spoils() {
		p := base()
		if spoil(&p); what != "a million classes" {
			list = append(list, question{p, allRules})
		}
	}
	return list
}

// left holds that what is handed in is not changed, and that what stands in spare room is not looked at.
func left(t *testing.T, q question) {
	t.Helper()
	other := q.roomy()
	was := other.handed()
	if is, want := other.ask(), q.ask(); is != want {
		t.Fatalf("%s, want %s", is, want)
	}
	if other.handed() != was {
		t.Fatalf("what was handed in is changed: %s", was)
	}
}

func TestHandedInIsLeft(t *testing.T) {
	r := rand.New(rand.NewSource(1841))
	for range 150 {
		left(t, chanceQuestion(t, r))
	}
	for _, q := range append(broken(), ended()...) {
		left(t, q)
	}
}

// TestBesideAnError: there is nothing else.
func TestBesideAnError(t *testing.T) {
	for _, q := range broken() {
		p, why, bad := rounds.Round(q.p, q.mask)
		r, other, worse := rounds.Fold(q.p)
		if len(p.Classes)+len(p.Roots)+len(r.Classes)+len(r.Roots) > 0 || why != 0 || other != 0 || bad != api.ErrForm || worse != api.ErrForm {
			t.Errorf("%s, %d, %d; %s, %d, %d", drawing(p), why, bad, drawing(r), other, worse)
		}
	}
}

// owners tells who has which piece of memory.
type owners map[any]string

// claim holds that the memory of a list, spare room too, is nobody's yet.
func claim[T any](t *testing.T, o owners, who string, l []T) {
	t.Helper()
	for i := range full(l) {
		cell := &full(l)[i]
		if was, there := o[cell]; there {
			t.Fatalf("%s shares memory with %s", who, was)
		}
		o[cell] = who
	}
}

// claimPicture is claim for all lists of a picture.
func claimPicture(t *testing.T, o owners, who string, p api.Picture) {
	t.Helper()
	claim(t, o, who+", roots", p.Roots)
	claim(t, o, who+", classes", p.Classes)
	for i, c := range full(p.Classes) {
		claim(t, o, fmt.Sprint(who, ", class ", i), c.Nodes)
		for k, n := range full(c.Nodes) {
			claim(t, o, fmt.Sprint(who, ", class ", i, ", kids of ", k), n.Kids)
		}
	}
}

// TestAnswersHaveTheirOwnMemory: no answer shares any with what was handed in, with another one, or in itself.
func TestAnswersHaveTheirOwnMemory(t *testing.T) {
	r := rand.New(rand.NewSource(1842))
	questions := ended()
	for range 60 {
		questions = append(questions, chanceQuestion(t, r))
	}
	for _, q := range questions {
		q = q.roomy()
		o := owners{}
		claimPicture(t, o, "the picture", q.p)
		for round := range 3 {
			p, _, _ := rounds.Round(q.p, q.mask)
			claimPicture(t, o, fmt.Sprint("Round ", round), p)
			p, _, _ = rounds.Fold(q.p)
			claimPicture(t, o, fmt.Sprint("Fold ", round), p)
		}
	}
}

// scribble writes over all lists of a picture, spare room too.
func scribble(p api.Picture) {
	for k := range full(p.Roots) {
		full(p.Roots)[k] = -7
	}
	for i, c := range full(p.Classes) {
		for j, n := range full(c.Nodes) {
			for k := range full(n.Kids) {
				full(n.Kids)[k] = -7
			}
			full(c.Nodes)[j] = api.Node{Op: 77, N: 77, Name: "77", Kids: []int{77}}
		}
		full(p.Classes)[i] = api.Class{Size: 77}
	}
}

// TestWrittenOver: what is written into an answer, spare room too, is in no later one, nor in what was handed in.
func TestWrittenOver(t *testing.T) {
	r := rand.New(rand.NewSource(1843))
	questions := ended()
	for range 100 {
		questions = append(questions, chanceQuestion(t, r))
	}
	for _, q := range questions {
		q = q.roomy()
		was, wasIn := q.ask(), q.handed()
		p, _, _ := rounds.Round(q.p, q.mask)
		scribble(p)
		p, _, _ = rounds.Fold(q.p)
		scribble(p)
		if is := q.ask(); is != was || q.handed() != wasIn {
			t.Fatalf("%s, was %s", is, was)
		}
	}
}

// TestWrittenOverLater: what is written behind a call into what was handed in is not in its answer, and is in the next one.
func TestWrittenOverLater(t *testing.T) {
	p := told(t, "x + 0", "1 + 2")
	q, _, _ := rounds.Round(p, allRules)
	f, _, _ := rounds.Fold(p)
	wasQ, wasF := drawing(q), drawing(f)
	p.Classes[3].Nodes[0].Name = "y"
	p.Roots[0] = 3
	is(t, q, wasQ)
	is(t, f, wasF)
	q, _, _ = rounds.Round(p, allRules)
	says(t, q, "y + 0 = y", "no x", "1 + 2 = 3")
	f, _, _ = rounds.Fold(p)
	says(t, f, "y + 0 # y", "no x")
	if f.Roots[0] != home(t, f, "y") {
		t.Error(drawing(f))
	}
	scribble(p)
	says(t, q, "y + 0 = y", "no x", "1 + 2 = 3")
	says(t, f, "y + 0 # y", "no x")
}

// TestNothingIsKept: what is asked of one thing is in no answer about another, and the same is answered again, in any row and at one time.
func TestNothingIsKept(t *testing.T) {
	r := rand.New(rand.NewSource(1844))
	questions := append(broken(), ended()...)
	for range 60 {
		questions = append(questions, chanceQuestion(t, r))
	}
	var want []string
	for _, q := range questions {
		want = append(want, q.ask())
	}
	for range 200 {
		i := r.Intn(len(questions))
		if is := questions[i].ask(); is != want[i] {
			t.Fatalf("%s, was %s", is, want[i])
		}
	}
	done := make(chan bool)
	for range 8 {
		go func() {
			ok := true
			for i, q := range questions {
				ok = ok && q.ask() == want[i]
			}
			done <- ok
		}()
	}
	for range 8 {
		if !<-done {
			t.Error("another answer, where several ask at one time")
		}
	}
}
