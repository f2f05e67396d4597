package machine_test

import (
	"fmt"
	"math"
	"math/rand"
	"slices"
	"strings"
	"testing"

	"sorrel/api"
	"sorrel/machine"
)

// The rules that hold for all calls.

// base is a sound picture with classes of all facts, some of them in cycles, and of one Size, too.
func base() api.Picture {
	return api.Picture{
		Classes: []api.Class{
			sized(1, lit(-1)),
			sized(1, lit(0), lit(4)),
			sized(1, lit(7), do(api.OpNot, 6)),
			sized(1, vari("a"), vari("b"), do(api.OpSub, 3, 1)),
			sized(1, vari("é")),
			sized(2, do(api.OpNeg, 0), do(api.OpAdd, 0, 0)),
			sized(2, do(api.OpNot, 4)),
			sized(3, do(api.OpAdd, 3, 4), do(api.OpMul, 2, 2)),
			sized(3, do(api.OpDiv, 3, 0), do(api.OpDiv, 3, 4), do(api.OpIf, 1, 2, 8)),
			sized(3, do(api.OpDiv, 3, 1)),
			sized(4, do(api.OpNeg, 9)),
		},
		Roots: []int{9, 0, 10, 9},
	}
}

// spoils is the ways in which base can fail to be sound.
func spoils() map[string]func(p *api.Picture) {
	type spoil = func(p *api.Picture)
	const last = 10
	node := func(c, at int, n api.Node) spoil {
		return func(p *api.Picture) { p.Classes[c].Nodes[at] = n }
	}
	more := func(c int, n ...api.Node) spoil {
		return func(p *api.Picture) { p.Classes[c].Nodes = append(p.Classes[c].Nodes, n...) }
	}
	behind := func(c ...api.Class) spoil {
		return func(p *api.Picture) { p.Classes = append(p.Classes, c...) }
	}
	size := func(c, size int) spoil {
		return func(p *api.Picture) { p.Classes[c].Size = size }
	}
	turned := func(c, a, b int) spoil {
		return func(p *api.Picture) { n := p.Classes[c].Nodes; n[a], n[b] = n[b], n[a] }
	}
	about := func(a, b int) spoil {
		return func(p *api.Picture) { *p = swapped(*p, a, b) }
	}
	roots := func(roots ...int) spoil {
		return func(p *api.Picture) { p.Roots = roots }
	}
	return map[string]spoil{
		"a last class without nodes":         behind(api.Class{Size: 9}),
		"a class in the midst without nodes": func(p *api.Picture) { p.Classes[4].Nodes = nil },
		"op 0":                               more(last, api.Node{}),
		"an operator below all":              node(0, 0, api.Node{Op: -1}),
		"an operator far below":              node(0, 0, api.Node{Op: math.MinInt}),
		"a hole":                             more(last, api.Node{Op: api.OpHole, Name: "a"}),
		"an operator above all":              more(last, do(19, 0, 1)),
		"an operator far above":              more(last, do(math.MaxInt, 0)),
		"a literal with a kid":               node(0, 0, api.Node{Op: api.OpLit, N: -1, Kids: []int{0}}),
		"a variable with a kid":              node(4, 0, api.Node{Op: api.OpVar, Name: "é", Kids: []int{0}}),
		"a negation without kids":            more(4, do(api.OpNeg)),
		"a negation of two":                  node(last, 0, do(api.OpNeg, 9, 0)),
		"a division of one":                  more(last, do(api.OpDiv, 0)),
		"a division of none":                 more(last, do(api.OpDiv)),
		"a division of three":                more(last, do(api.OpDiv, 0, 0, 0)),
		"a rest of one":                      more(last, do(api.OpRem, 0)),
		"a choice of two":                    more(last, do(api.OpIf, 0, 0)),
		"a choice of four":                   more(last, do(api.OpIf, 0, 0, 0, 0)),
		"kid -1":                             more(last, do(api.OpNot, -1)),
		"a kid behind the last class":        more(last, do(api.OpNot, last+1)),
		"a divisor behind the last class":    more(last, do(api.OpDiv, 0, last+1)),
		"a third kid behind the last class":  more(last, do(api.OpIf, 0, 0, last+1)),
		"a kid far above":                    more(last, do(api.OpRem, 0, math.MaxInt)),
		"a kid far below":                    more(last, do(api.OpRem, 0, math.MinInt)),
		"root -1":                            roots(-1),
		"a root behind the last class":       roots(0, last+1),
		"a root far above":                   roots(0, math.MaxInt),
		"a root far below":                   roots(math.MinInt, 0),
		"a variable with N":                  node(4, 0, api.Node{Op: api.OpVar, Name: "é", N: 1}),
		"an operator with N":                 more(last, api.Node{Op: api.OpNot, N: -1, Kids: []int{0}}),
		"a literal with a name":              node(0, 0, api.Node{Op: api.OpLit, N: -1, Name: "a"}),
		"an operator with a name":            more(last, api.Node{Op: api.OpNot, Name: "a", Kids: []int{0}}),
		"a variable without a name":          node(4, 0, vari("")),
		"a name that is a number":            node(4, 0, vari("3")),
		"a name with a bad byte":             node(4, 0, vari("é\xff")),
		"a name that is too long":            node(4, 0, vari(strings.Repeat("é", api.MaxName+1))),
		"a leaf twice in a class":            more(4, vari("é")),
		"an operator's node twice":           more(last, do(api.OpNeg, 9)),
		"a literal in two classes":           more(0, lit(4)),
		"a variable in two classes":          more(2, vari("b")),
		"an operator's node in two classes":  more(last, do(api.OpDiv, 3, 4)),
		"a class of itself alone":            behind(sized(9, do(api.OpNeg, last+1))),
		"a class with the Size of itself":    behind(sized(5, do(api.OpNeg, last+1), do(api.OpAdd, last+1, 0))),
		"two around each other alone":        behind(sized(9, do(api.OpNeg, last+2)), sized(10, do(api.OpNeg, last+1))),
		"an operator over nothing":           behind(sized(9, do(api.OpNeg, last+1)), sized(10, do(api.OpNot, last+1))),
		"Size 0":                             size(0, 0),
		"Size -1":                            size(0, -1),
		"a Size that is too small":           size(5, 1),
		"a last Size that is too small":      size(last, 3),
		"a Size that is too great":           size(8, 4),
		"a last Size that is too great":      size(last, 5),
		"Size MaxSize":                       size(last, api.MaxSize),
		"a Size far above":                   size(last, math.MaxInt),
		"a Size far below":                   size(last, math.MinInt),
		"literals about":                     about(0, 1),
		"a variable ahead of a literal":      about(2, 3),
		"variables about":                    about(3, 4),
		"operators of one size about":        about(5, 6),
		"kids of one operator about":         about(8, 9),
		"sizes about":                        about(6, 7),
		"the first and the last about":       about(0, last),
		"literals of a class about":          turned(1, 0, 1),
		"variables of a class about":         turned(3, 0, 1),
		"a leaf behind an operator":          turned(3, 1, 2),
		"operators of a class about":         turned(7, 0, 1),
		"divisors of a class about":          turned(8, 0, 1),
	}
}

// swapped is a picture with two classes changed about.
func swapped(p api.Picture, a, b int) api.Picture {
	at := func(c int) int {
		switch c {
		case a:
			return b
		case b:
			return a
		}
		return c
	}
	q := api.Picture{Classes: make([]api.Class, len(p.Classes))}
	for c, old := range p.Classes {
		var nodes []api.Node
		for _, n := range old.Nodes {
			var kids []int
			for _, kid := range n.Kids {
				kids = append(kids, at(kid))
			}
			n.Kids = kids
			nodes = append(nodes, n)
		}
		q.Classes[at(c)] = sized(old.Size, nodes...)
	}
	for _, root := range p.Roots {
		q.Roots = append(q.Roots, at(root))
	}
	return q
}

// full is a list with all its spare room.
func full[T any](l []T) []T { return l[:cap(l)] }

// roomy is a copy of a list with spare room, in which something stands.
func roomy[T any](l []T, spare ...T) []T {
	return append(slices.Clone(l), spare...)[:len(l)]
}

// roomyNodes is a copy of nodes whose lists all have spare room.
func roomyNodes(nodes []api.Node) []api.Node {
	out := roomy(nodes, lit(90), vari("spare"), do(api.OpNeg, 0))
	for i := range out {
		out[i].Kids = roomy(out[i].Kids, 0, 1, 0)
	}
	return out
}

// roomyPicture is a copy of a picture whose lists all have spare room.
func roomyPicture(p api.Picture) api.Picture {
	q := api.Picture{Classes: roomy(p.Classes, sized(1, lit(9)), sized(1, vari("spare"))), Roots: roomy(p.Roots, 0, 1, 0)}
	for i := range q.Classes {
		q.Classes[i].Nodes = roomyNodes(q.Classes[i].Nodes)
	}
	return q
}

// all is everything that stands in nodes, spare room too.
func all(nodes []api.Node) string {
	var s strings.Builder
	for _, n := range full(nodes) {
		fmt.Fprintln(&s, n.Op, n.N, n.Name, len(n.Kids), full(n.Kids))
	}
	return s.String()
}

// allOf is everything that stands in a picture, spare room too.
func allOf(p api.Picture) string {
	var s strings.Builder
	for _, c := range full(p.Classes) {
		fmt.Fprintln(&s, c.Size, len(c.Nodes), all(c.Nodes))
	}
	return s.String() + fmt.Sprintln(len(p.Classes), len(p.Roots), full(p.Roots))
}

// roomyProgram is a copy of a program with spare room.
func roomyProgram(prog []api.Cmd) []api.Cmd {
	return roomy(prog, take(0, 0), look(0, api.OpAdd, 1), api.Cmd{Kind: 9})
}

// ask makes all calls, and writes their answers out.
func ask(pattern []api.Node, prog []api.Cmd, holes int, p api.Picture, class int) string {
	made, bad := machine.Compile(pattern)
	worse := machine.Check(prog, holes)
	found, worst := machine.Run(prog, holes, p, class)
	return fmt.Sprintln(made, bad, worse, len(found), found, worst)
}

// question is what the calls can be asked.
type question struct {
	pattern []api.Node
	prog    []api.Cmd
	holes   int
	p       api.Picture
	class   int
}

func (q question) ask() string { return ask(q.pattern, q.prog, q.holes, q.p, q.class) }

// chanceQuestion is a random one, sound in all.
func chanceQuestion(t *testing.T, r *rand.Rand) question {
	t.Helper()
	q := question{p: chance(t, r, 3, r.Intn(8))}
	for machine.Check(q.prog, q.holes) != api.OK || q.pattern == nil {
		q.class = chanceClass(r, q.p)
		q.prog, q.holes = chanceProgram(r, q.p, q.class, 1+r.Intn(10))
		q.pattern = chanceTree(r, append(slices.Clone(someLeaves), hole("a"), hole("b"), hole("a")), 3)
	}
	return q
}

// left holds that what is handed in is not changed, sound or not, spare room included, and that what stands in that is not looked at.
func left(t *testing.T, q question) {
	t.Helper()
	full1 := question{roomyNodes(q.pattern), roomyProgram(q.prog), q.holes, roomyPicture(q.p), q.class}
	was := all(full1.pattern) + fmt.Sprint(full(full1.prog)) + allOf(full1.p)
	if is, want := full1.ask(), q.ask(); is != want {
		t.Fatalf("%s, want %s", is, want)
	}
	if all(full1.pattern)+fmt.Sprint(full(full1.prog))+allOf(full1.p) != was {
		t.Fatalf("what was handed in is changed: %v, %v, %s", q.pattern, q.prog, text(q.p))
	}
}

func TestHandedInIsLeft(t *testing.T) {
	r := rand.New(rand.NewSource(1511))
	for range 1000 {
		q := chanceQuestion(t, r)
		left(t, q)
		q.holes++
		left(t, q)
		q.holes--
		q.class = -1
		left(t, q)
		q.prog[r.Intn(len(q.prog))].R = 99
		left(t, q)
	}
	for _, spoil := range spoils() {
		p := base()
		spoil(&p)
		left(t, question{nil, takes(1), 1, p, 0})
	}
}

// owners tells who has which piece of memory.
type owners map[any]string

// claim holds that the memory of a list, spare room too, is nobody's yet.
func claim[T any](t *testing.T, o owners, who string, l []T) {
	t.Helper()
	for i := range full(l) {
		cell := &full(l)[i]
		if was, there := o[cell]; there {
			t.Fatalf("%s shares memory with %s", who, was)
		}
		o[cell] = who
	}
}

// claimLists is claim for lists, and all that is in them.
func claimLists(t *testing.T, o owners, who string, lists [][]int) {
	t.Helper()
	claim(t, o, who, lists)
	for i, l := range full(lists) {
		claim(t, o, fmt.Sprint(who, ", list ", i), l)
	}
}

// claimPicture is claim for a picture, and all that is in it.
func claimPicture(t *testing.T, o owners, who string, p api.Picture) {
	t.Helper()
	claim(t, o, who, p.Classes)
	claim(t, o, who, p.Roots)
	for _, c := range full(p.Classes) {
		claim(t, o, who, c.Nodes)
		for _, n := range full(c.Nodes) {
			claim(t, o, who, n.Kids)
		}
	}
}

// TestAnswersHaveTheirOwnMemory: no answer shares any with what was handed in, with another one, or in itself.
func TestAnswersHaveTheirOwnMemory(t *testing.T) {
	r := rand.New(rand.NewSource(1512))
	several := 0
	for range 500 {
		q := chanceQuestion(t, r)
		o := owners{}
		claimPicture(t, o, "the picture", q.p)
		claim(t, o, "the program", q.prog)
		claim(t, o, "the pattern", q.pattern)
		for round := range 3 {
			found, _ := machine.Run(q.prog, q.holes, q.p, q.class)
			claimLists(t, o, fmt.Sprint("Run ", round), found)
			several += min(len(found)/2, 1)
			prog, _ := machine.Compile(q.pattern)
			claim(t, o, fmt.Sprint("Compile ", round), prog)
		}
	}
	if several < 100 {
		t.Errorf("only %d answers of several lists", several)
	}
	// Many lists of several holes, which are found part by part.
	four := rich(4)
	o := owners{}
	prog := []api.Cmd{look(0, api.OpAdd, 1), look(0, api.OpAdd, 3), take(1, 0), take(2, 1), take(3, 2), take(4, 3)}
	claimLists(t, o, "Run", must(t, prog, 4, four, 4))
	claimLists(t, o, "Run again", must(t, prog, 4, four, 4))
}

// TestWrittenOver: what is written into an answer, spare room too, is in no other one, nor in what was handed in.
func TestWrittenOver(t *testing.T) {
	r := rand.New(rand.NewSource(1513))
	for range 500 {
		q := chanceQuestion(t, r)
		was, wasIn := q.ask(), all(q.pattern)+fmt.Sprint(full(q.prog))+allOf(q.p)
		prog, _ := machine.Compile(q.pattern)
		found, _ := machine.Run(q.prog, q.holes, q.p, q.class)
		again, _ := machine.Run(q.prog, q.holes, q.p, q.class)
		want := fmt.Sprint(found)
		for i := range full(prog) {
			full(prog)[i] = api.Cmd{Kind: 77, R: 77, To: 77, Op: 77, N: 77, Name: "77"}
		}
		for i, l := range full(found) {
			for k := range full(l) {
				full(l)[k] = -77
			}
			full(found)[i] = nil
		}
		if fmt.Sprint(again) != want {
			t.Fatalf("%v, want %s", again, want)
		}
		if is := q.ask(); is != was || all(q.pattern)+fmt.Sprint(full(q.prog))+allOf(q.p) != wasIn {
			t.Fatalf("%s, was %s", is, was)
		}
	}
}

// TestWrittenOverLater: what is written behind a call into what was handed in is not in its answer, and is in the next one.
func TestWrittenOverLater(t *testing.T) {
	p, prog := rich(3), []api.Cmd{look(0, api.OpAdd, 1), lookVar(2, "xab", 3), take(1, 0)}
	pattern := pat(t, "@a + b")
	made, _ := machine.Compile(pattern)
	wasMade := fmt.Sprint(made)
	found := must(t, prog, 1, p, 3)
	p.Classes[3].Nodes = []api.Node{do(api.OpAdd, 2, 1), do(api.OpAdd, 2, 2)}
	prog[2].R, pattern[1].Name = 2, "c"
	if fmt.Sprint(found) != "[[0] [1] [2]]" || fmt.Sprint(made) != wasMade {
		t.Errorf("%v, %v", found, made)
	}
	finds(t, prog, 1, p, 3, "[[1]]")
	prog[2].R = 1
	finds(t, prog, 1, p, 3, "[[2]]")
	if made, _ = machine.Compile(pattern); fmt.Sprint(made) == wasMade {
		t.Errorf("%v", made)
	}
	prog[0].To = 2
	refused(t, "written over", prog, 1)
}

// TestNothingIsKept: what is asked of one thing is in no answer about another, and the same is answered again, in any row and at one time.
func TestNothingIsKept(t *testing.T) {
	r := rand.New(rand.NewSource(1514))
	var questions []question
	var want []string
	put := func(q question) { questions, want = append(questions, q), append(want, q.ask()) }
	for range 60 {
		q := chanceQuestion(t, r)
		put(q)
		q.class = (q.class + 1) % len(q.p.Classes)
		put(q)
		q.pattern, q.holes = nil, q.holes+1
		put(q)
	}
	put(question{pattern: pat(t, "@a + @b"), prog: []api.Cmd{look(0, api.OpAdd, 1), take(1, 0), take(2, 1)}, holes: 2, p: rich(66), class: 66})
	for range 500 {
		i := r.Intn(len(questions))
		if is := questions[i].ask(); is != want[i] {
			t.Fatalf("%s, was %s", is, want[i])
		}
	}
	done := make(chan bool)
	for range 8 {
		go func() {
			ok := true
			for i, q := range questions {
				ok = ok && q.ask() == want[i]
			}
			done <- ok
		}()
	}
	for range 8 {
		if !<-done {
			t.Error("another answer, where several ask at one time")
		}
	}
}
