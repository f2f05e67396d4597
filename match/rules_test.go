package match_test

import (
	"fmt"
	"math"
	"math/rand"
	"slices"
	"strings"
	"testing"

	"sorrel/api"
	"sorrel/match"
)

// The rules that hold for all calls.

// base is a sound picture with classes of all facts, some of them in cycles, and of one Size, too.
func base() api.Picture {
	return api.Picture{
		Classes: []api.Class{
			sized(1, lit(-1)),
			sized(1, lit(0), lit(4)),
			sized(1, lit(7), do(api.OpNot, 6)),
			sized(1, vari("a"), vari("b"), do(api.OpSub, 3, 1)),
			sized(1, vari("é")),
			sized(2, do(api.OpNeg, 0), do(api.OpAdd, 0, 0)),
			sized(2, do(api.OpNot, 4)),
			sized(3, do(api.OpAdd, 3, 4), do(api.OpMul, 2, 2)),
			sized(3, do(api.OpDiv, 3, 0), do(api.OpDiv, 3, 4), do(api.OpIf, 1, 2, 8)),
			sized(3, do(api.OpDiv, 3, 1)),
			sized(4, do(api.OpNeg, 9)),
		},
		Roots: []int{9, 0, 10, 9},
	}
}

// spoils is the ways in which base can fail to be sound.
func spoils() map[string]func(p *api.Picture) {
	type spoil = func(p *api.Picture)
	const last = 10
	node := func(c, at int, n api.Node) spoil {
		return func(p *api.Picture) { p.Classes[c].Nodes[at] = n }
	}
	more := func(c int, n ...api.Node) spoil {
		return func(p *api.Picture) { p.Classes[c].Nodes = append(p.Classes[c].Nodes, n...) }
	}
	behind := func(c ...api.Class) spoil {
		return func(p *api.Picture) { p.Classes = append(p.Classes, c...) }
	}
	size := func(c, size int) spoil {
		return func(p *api.Picture) { p.Classes[c].Size = size }
	}
	turned := func(c, a, b int) spoil {
		return func(p *api.Picture) { n := p.Classes[c].Nodes; n[a], n[b] = n[b], n[a] }
	}
	roots := func(roots ...int) spoil {
		return func(p *api.Picture) { p.Roots = roots }
	}
	return map[string]spoil{
		"a last class without nodes":         behind(api.Class{Size: 9}),
		"a class in the midst without nodes": func(p *api.Picture) { p.Classes[4].Nodes = nil },
		"op 0":                               more(last, api.Node{}),
		"an operator below all":              node(0, 0, api.Node{Op: -1}),
		"a hole":                             more(last, api.Node{Op: api.OpHole, Name: "a"}),
		"an operator above all":              more(last, do(19, 0, 1)),
		"a literal with a kid":               node(0, 0, api.Node{Op: api.OpLit, N: -1, Kids: []int{0}}),
		"a negation without kids":            more(4, do(api.OpNeg)),
		"a negation of two":                  node(last, 0, do(api.OpNeg, 9, 0)),
		"a sum of one":                       more(last, do(api.OpAdd, 0)),
		"a sum of three":                     more(last, do(api.OpAdd, 0, 0, 0)),
		"a choice of four":                   more(last, do(api.OpIf, 0, 0, 0, 0)),
		"a choice of many":                   more(last, do(api.OpIf, make([]int, 99)...)),
		"kid -1":                             more(last, do(api.OpNot, -1)),
		"a kid behind the last class":        more(last, do(api.OpNot, last+1)),
		"a third kid behind the last class":  more(last, do(api.OpIf, 0, 0, last+1)),
		"a kid far above":                    more(last, do(api.OpRem, 0, math.MaxInt)),
		"a kid far below":                    more(last, do(api.OpRem, 0, math.MinInt)),
		"root -1":                            roots(-1),
		"a root behind the last class":       roots(0, last+1),
		"a root far above":                   roots(0, math.MaxInt),
		"a variable with N":                  node(4, 0, api.Node{Op: api.OpVar, Name: "é", N: 1}),
		"an operator with a name":            more(last, api.Node{Op: api.OpNot, Name: "a", Kids: []int{0}}),
		"a name that is a number":            node(4, 0, vari("3")),
		"a name with a bad byte":             node(4, 0, vari("é\xff")),
		"a leaf twice in a class":            more(4, vari("é")),
		"an operator's node twice":           more(last, do(api.OpNeg, 9)),
		"a literal in two classes":           more(0, lit(4)),
		"an operator's node in two classes":  more(last, do(api.OpDiv, 3, 4)),
		"a class of itself alone":            behind(sized(9, do(api.OpNeg, last+1))),
		"Size 0":                             size(0, 0),
		"a last Size that is too small":      size(last, 3),
		"a last Size that is too great":      size(last, 5),
		"Size MaxSize":                       size(last, api.MaxSize),
		"literals of a class about":          turned(1, 0, 1),
		"variables of a class about":         turned(3, 0, 1),
		"a leaf behind an operator":          turned(3, 1, 2),
		"divisors of a class about":          turned(8, 0, 1),
		"two classes about":                  func(p *api.Picture) { p.Classes[0], p.Classes[1] = p.Classes[1], p.Classes[0] },
	}
}

// full is a list with all its spare room.
func full[T any](l []T) []T { return l[:cap(l)] }

// roomy is a copy of a list with spare room, in which something stands.
func roomy[T any](l []T, spare ...T) []T {
	return append(slices.Clone(l), spare...)[:len(l)]
}

// roomyNodes is a copy of nodes whose lists all have spare room.
func roomyNodes(nodes []api.Node) []api.Node {
	out := roomy(nodes, lit(90), vari("spare"), do(api.OpNeg, 0))
	for i := range out {
		out[i].Kids = roomy(out[i].Kids, 0, 1, 0)
	}
	return out
}

// roomyPicture is a copy of a picture whose lists all have spare room.
func roomyPicture(p api.Picture) api.Picture {
	q := api.Picture{Classes: roomy(p.Classes, sized(1, lit(9)), sized(1, vari("spare"))), Roots: roomy(p.Roots, 0, 1, 0)}
	for i := range q.Classes {
		q.Classes[i].Nodes = roomyNodes(q.Classes[i].Nodes)
	}
	return q
}

// all is everything that stands in nodes, spare room too.
func all(nodes []api.Node) string {
	var s strings.Builder
	for _, n := range full(nodes) {
		fmt.Fprintln(&s, n.Op, n.N, n.Name, len(n.Kids), full(n.Kids))
	}
	return s.String()
}

// allOf is everything that stands in a picture, spare room too.
func allOf(p api.Picture) string {
	var s strings.Builder
	for _, c := range full(p.Classes) {
		fmt.Fprintln(&s, c.Size, len(c.Nodes), all(c.Nodes))
	}
	return s.String() + fmt.Sprintln(len(p.Classes), len(p.Roots), full(p.Roots))
}

// question is what the calls can be asked.
type question struct {
	pattern []api.Node
	p       api.Picture
	class   int
	holes   []int
}

// ask makes all calls, and writes their answers out.
func (q question) ask() string {
	lists, bad := match.At(q.pattern, q.p, q.class)
	matches, worse := match.Find(q.pattern, q.p)
	class, worst := match.Class(q.pattern, q.p, q.holes)
	return fmt.Sprintln(len(lists), lists, bad, len(matches), matches, worse, class, worst)
}

// is is everything that is handed in, spare room too.
func (q question) is() string { return all(q.pattern) + allOf(q.p) + fmt.Sprint(full(q.holes)) }

// roomy is a copy of a question whose lists all have spare room.
func (q question) roomy() question {
	return question{roomyNodes(q.pattern), roomyPicture(q.p), q.class, roomy(q.holes, 0, 0, 7)}
}

// chanceQuestion is a random one, sound in all; most often the pattern stands somewhere.
func chanceQuestion(t *testing.T, r *rand.Rand) question {
	t.Helper()
	q := question{pattern: chancePattern(r, 3, 1+r.Intn(3)), p: chance(t, r, 3, r.Intn(8))}
	q.class = r.Intn(len(q.p.Classes))
	found, bad := match.Find(q.pattern, q.p)
	if bad != api.OK {
		t.Fatal(bad)
	}
	if len(found) > 0 {
		m := found[r.Intn(len(found))]
		q.class, q.holes = m.Class, m.Holes
		return q
	}
	q.holes = make([]int, len(namesOf(q.pattern)))
	return q
}

// left holds that what is handed in is not changed, sound or not, spare room included, and that what stands in that is not looked at.
func left(t *testing.T, q question) {
	t.Helper()
	other := q.roomy()
	was := other.is()
	if is, want := other.ask(), q.ask(); is != want {
		t.Fatalf("%s, want %s", is, want)
	}
	if other.is() != was {
		t.Fatalf("what was handed in is changed: %v, %s, %v", q.pattern, text(q.p), q.holes)
	}
}

func TestHandedInIsLeft(t *testing.T) {
	r := rand.New(rand.NewSource(1611))
	for range 600 {
		q := chanceQuestion(t, r)
		left(t, q)
		q.class = -1
		left(t, q)
		q.holes = append(q.holes, 0)
		left(t, q)
		q.pattern = q.pattern[1:]
		left(t, q)
	}
	for _, spoil := range spoils() {
		p := base()
		spoil(&p)
		left(t, question{[]api.Node{hole("a")}, p, 0, []int{0}})
	}
	for _, with := range unsound() {
		if len(with) < 100 {
			left(t, question{with, base(), 0, []int{0}})
		}
	}
	left(t, question{pat(t, "@a + @b"), rich(66), 66, []int{0, 0}})
}

// owners tells who has which piece of memory.
type owners map[any]string

// claim holds that the memory of a list, spare room too, is nobody's yet.
func claim[T any](t *testing.T, o owners, who string, l []T) {
	t.Helper()
	for i := range full(l) {
		cell := &full(l)[i]
		if was, there := o[cell]; there {
			t.Fatalf("%s shares memory with %s", who, was)
		}
		o[cell] = who
	}
}

// claimNodes is claim for nodes, and all that is in them.
func claimNodes(t *testing.T, o owners, who string, nodes []api.Node) {
	t.Helper()
	claim(t, o, who, nodes)
	for _, n := range full(nodes) {
		claim(t, o, who, n.Kids)
	}
}

// claimAnswers asks At and Find, and is claim for all that they answer.
func claimAnswers(t *testing.T, o owners, q question) int {
	t.Helper()
	lists, _ := match.At(q.pattern, q.p, q.class)
	claim(t, o, "At", lists)
	for i, l := range full(lists) {
		claim(t, o, fmt.Sprint("At, list ", i), l)
	}
	matches, _ := match.Find(q.pattern, q.p)
	claim(t, o, "Find", matches)
	for i, m := range full(matches) {
		claim(t, o, fmt.Sprint("Find, match ", i), m.Holes)
	}
	return len(lists)
}

// TestAnswersHaveTheirOwnMemory: no answer shares any with what was handed in, with another one, or in itself.
func TestAnswersHaveTheirOwnMemory(t *testing.T) {
	r := rand.New(rand.NewSource(1612))
	several := 0
	for range 800 {
		q := chanceQuestion(t, r).roomy()
		o := owners{}
		claimNodes(t, o, "the pattern", q.pattern)
		claim(t, o, "the holes", q.holes)
		claim(t, o, "the picture", q.p.Classes)
		claim(t, o, "the picture", q.p.Roots)
		for _, c := range full(q.p.Classes) {
			claimNodes(t, o, "the picture", c.Nodes)
		}
		for range 3 {
			several += min(claimAnswers(t, o, q)/2, 1)
		}
	}
	if several < 100 {
		t.Errorf("only %d answers of several lists", several)
	}
	o := owners{}
	for _, s := range []string{"@a + @b", "@a", "xaa + xab", "@a + @a"} {
		claimAnswers(t, o, question{pattern: pat(t, s), p: rich(9), class: 9})
	}
}

// TestWrittenOver: what is written into an answer, spare room too, is in no other one, nor in what was handed in.
func TestWrittenOver(t *testing.T) {
	r := rand.New(rand.NewSource(1613))
	for range 400 {
		q := chanceQuestion(t, r)
		was, wasIn := q.ask(), q.is()
		lists, _ := match.At(q.pattern, q.p, q.class)
		matches, _ := match.Find(q.pattern, q.p)
		again, _ := match.Find(q.pattern, q.p)
		want := fmt.Sprint(again)
		for i, l := range full(lists) {
			for k := range full(l) {
				full(l)[k] = -77
			}
			full(lists)[i] = nil
		}
		for i, m := range full(matches) {
			for k := range full(m.Holes) {
				full(m.Holes)[k] = -77
			}
			full(matches)[i] = api.Match{Rule: 77, Class: 77}
		}
		if fmt.Sprint(again) != want || q.ask() != was || q.is() != wasIn {
			t.Fatalf("%s, was %s", q.ask(), was)
		}
	}
}

// TestWrittenOverLater: what is written behind a call into what was handed in is not in its answer, and is in the next one.
func TestWrittenOverLater(t *testing.T) {
	p, with := rich(3), pat(t, "@a + xab")
	lists, _ := match.At(with, p, 3)
	matches, _ := match.Find(with, p)
	was := fmt.Sprint(lists, matches)
	p.Classes[3].Nodes = []api.Node{do(api.OpAdd, 2, 1), do(api.OpAdd, 2, 2)}
	with[1].Name = "xac"
	if fmt.Sprint(lists, matches) != was || was != "[[0] [1] [2]] [{0 3 [0]} {0 3 [1]} {0 3 [2]}]" {
		t.Errorf("%v, %v, was %s", lists, matches, was)
	}
	finds(t, with, p, 3, "[[2]]")
	with[1].Name = "xab"
	finds(t, with, p, 3, "[[2]]")
	with[1].Name = "xaa"
	finds(t, with, p, 3, "[]")
	p.Classes[3].Size = 4
	fails(t, "written over", with, p, 3, api.ErrForm, api.ErrForm)
}

// TestNothingIsKept: what is asked of one thing is in no answer about another, and the same is answered again, in any row and at one time.
func TestNothingIsKept(t *testing.T) {
	r := rand.New(rand.NewSource(1614))
	var questions []question
	var want []string
	put := func(q question) { questions, want = append(questions, q), append(want, q.ask()) }
	for range 60 {
		q := chanceQuestion(t, r)
		put(q)
		q.class = (q.class + 1) % len(q.p.Classes)
		put(q)
		q.pattern = chancePattern(r, 3, 2)
		put(q)
		q.pattern = nil
		put(q)
	}
	put(question{pat(t, "@a + @b"), rich(66), 66, []int{1, 2}})
	for range 500 {
		i := r.Intn(len(questions))
		if is := questions[i].ask(); is != want[i] {
			t.Fatalf("%s, was %s", is, want[i])
		}
	}
	done := make(chan bool)
	for range 8 {
		go func() {
			ok := true
			for i, q := range questions {
				ok = ok && q.ask() == want[i]
			}
			done <- ok
		}()
	}
	for range 8 {
		if !<-done {
			t.Error("another answer, where several ask at one time")
		}
	}
}
