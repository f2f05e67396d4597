package facts_test

import (
	"fmt"
	"math"
	"math/rand"
	"slices"
	"strings"
	"testing"

	"sorrel/api"
	"sorrel/facts"
	"sorrel/picture"
)

// The rules that hold for all calls.

// base is a sound picture with classes of all facts, some of them in cycles, and of one Size, too.
func base() api.Picture {
	return api.Picture{
		Classes: []api.Class{
			class(1, lit(-1)),
			class(1, lit(0), lit(4)),
			class(1, lit(7), do(api.OpNot, 6)),
			class(1, vari("a"), vari("b"), do(api.OpSub, 3, 1)),
			class(1, vari("é")),
			class(2, do(api.OpNeg, 0), do(api.OpAdd, 0, 0)),
			class(2, do(api.OpNot, 4)),
			class(3, do(api.OpAdd, 3, 4), do(api.OpMul, 2, 2)),
			class(3, do(api.OpDiv, 3, 0), do(api.OpDiv, 3, 4), do(api.OpIf, 1, 2, 8)),
			class(3, do(api.OpDiv, 3, 1)),
			class(4, do(api.OpNeg, 9)),
		},
		Roots: []int{9, 0, 10, 9},
	}
}

// factsOfBase is what has to be known of it: of -1 + -1 and -(-1) the least, and of 0 and 4; a / 0 is in none that is Total.
func factsOfBase() []api.Fact {
	return []api.Fact{number(-1), number(0), number(7), sure, sure, number(-2), sure, number(49), sure, nothing, nothing}
}

func TestClassesOfBase(t *testing.T) { classesKnow(t, base(), factsOfBase()...) }

// spoils is the ways in which base can fail to be sound.
func spoils() map[string]func(p *api.Picture) {
	type spoil = func(p *api.Picture)
	const last = 10
	node := func(c, at int, n api.Node) spoil {
		return func(p *api.Picture) { p.Classes[c].Nodes[at] = n }
	}
	more := func(c int, n ...api.Node) spoil {
		return func(p *api.Picture) { p.Classes[c].Nodes = append(p.Classes[c].Nodes, n...) }
	}
	behind := func(c ...api.Class) spoil {
		return func(p *api.Picture) { p.Classes = append(p.Classes, c...) }
	}
	size := func(c, size int) spoil {
		return func(p *api.Picture) { p.Classes[c].Size = size }
	}
	turned := func(c, a, b int) spoil {
		return func(p *api.Picture) { n := p.Classes[c].Nodes; n[a], n[b] = n[b], n[a] }
	}
	about := func(a, b int) spoil {
		return func(p *api.Picture) { *p = swapped(*p, a, b) }
	}
	roots := func(roots ...int) spoil {
		return func(p *api.Picture) { p.Roots = roots }
	}
	return map[string]spoil{
		"a last class without nodes":         behind(api.Class{Size: 9}),
		"a class in the midst without nodes": func(p *api.Picture) { p.Classes[4].Nodes = nil },
		"op 0":                               more(last, api.Node{}),
		"an operator below all":              node(0, 0, api.Node{Op: -1}),
		"an operator far below":              node(0, 0, api.Node{Op: math.MinInt}),
		"a hole":                             more(last, api.Node{Op: api.OpHole, Name: "a"}),
		"an operator above all":              more(last, do(19, 0, 1)),
		"an operator far above":              more(last, do(math.MaxInt, 0)),
		"a literal with a kid":               node(0, 0, api.Node{Op: api.OpLit, N: -1, Kids: []int{0}}),
		"a variable with a kid":              node(4, 0, api.Node{Op: api.OpVar, Name: "é", Kids: []int{0}}),
		"a negation without kids":            more(4, do(api.OpNeg)),
		"a negation of two":                  node(last, 0, do(api.OpNeg, 9, 0)),
		"a division of one":                  more(last, do(api.OpDiv, 0)),
		"a division of none":                 more(last, do(api.OpDiv)),
		"a division of three":                more(last, do(api.OpDiv, 0, 0, 0)),
		"a rest of one":                      more(last, do(api.OpRem, 0)),
		"a choice of two":                    more(last, do(api.OpIf, 0, 0)),
		"a choice of four":                   more(last, do(api.OpIf, 0, 0, 0, 0)),
		"kid -1":                             more(last, do(api.OpNot, -1)),
		"a kid behind the last class":        more(last, do(api.OpNot, last+1)),
		"a divisor behind the last class":    more(last, do(api.OpDiv, 0, last+1)),
		"a third kid behind the last class":  more(last, do(api.OpIf, 0, 0, last+1)),
		"a kid far above":                    more(last, do(api.OpRem, 0, math.MaxInt)),
		"a kid far below":                    more(last, do(api.OpRem, 0, math.MinInt)),
		"root -1":                            roots(-1),
		"a root behind the last class":       roots(0, last+1),
		"a root far above":                   roots(0, math.MaxInt),
		"a root far below":                   roots(math.MinInt, 0),
		"a variable with N":                  node(4, 0, api.Node{Op: api.OpVar, Name: "é", N: 1}),
		"an operator with N":                 more(last, api.Node{Op: api.OpNot, N: -1, Kids: []int{0}}),
		"a literal with a name":              node(0, 0, api.Node{Op: api.OpLit, N: -1, Name: "a"}),
		"an operator with a name":            more(last, api.Node{Op: api.OpNot, Name: "a", Kids: []int{0}}),
		"a variable without a name":          node(4, 0, vari("")),
		"a name that is a number":            node(4, 0, vari("3")),
		"a name with a bad byte":             node(4, 0, vari("é\xff")),
		"a name that is too long":            node(4, 0, vari(strings.Repeat("é", api.MaxName+1))),
		"a leaf twice in a class":            more(4, vari("é")),
		"an operator's node twice":           more(last, do(api.OpNeg, 9)),
		"a literal in two classes":           more(0, lit(4)),
		"a variable in two classes":          more(2, vari("b")),
		"an operator's node in two classes":  more(last, do(api.OpDiv, 3, 4)),
		"a class of itself alone":            behind(class(9, do(api.OpNeg, last+1))),
		"a class with the Size of itself":    behind(class(5, do(api.OpNeg, last+1), do(api.OpAdd, last+1, 0))),
		"two around each other alone":        behind(class(9, do(api.OpNeg, last+2)), class(10, do(api.OpNeg, last+1))),
		"an operator over nothing":           behind(class(9, do(api.OpNeg, last+1)), class(10, do(api.OpNot, last+1))),
		"Size 0":                             size(0, 0),
		"Size -1":                            size(0, -1),
		"a Size that is too small":           size(5, 1),
		"a last Size that is too small":      size(last, 3),
		"a Size that is too great":           size(8, 4),
		"a last Size that is too great":      size(last, 5),
		"Size MaxSize":                       size(last, api.MaxSize),
		"a Size far above":                   size(last, math.MaxInt),
		"a Size far below":                   size(last, math.MinInt),
		"literals about":                     about(0, 1),
		"a variable ahead of a literal":      about(2, 3),
		"variables about":                    about(3, 4),
		"operators of one size about":        about(5, 6),
		"kids of one operator about":         about(8, 9),
		"sizes about":                        about(6, 7),
		"the first and the last about":       about(0, last),
		"literals of a class about":          turned(1, 0, 1),
		"variables of a class about":         turned(3, 0, 1),
		"a leaf behind an operator":          turned(3, 1, 2),
		"operators of a class about":         turned(7, 0, 1),
		"divisors of a class about":          turned(8, 0, 1),
	}
}

// swapped is a picture with two classes changed about.
func swapped(p api.Picture, a, b int) api.Picture {
	at := func(c int) int {
		switch c {
		case a:
			return b
		case b:
			return a
		}
		return c
	}
	q := api.Picture{Classes: make([]api.Class, len(p.Classes))}
	for c, old := range p.Classes {
		var nodes []api.Node
		for _, n := range old.Nodes {
			var kids []int
			for _, kid := range n.Kids {
				kids = append(kids, at(kid))
			}
			n.Kids = kids
			nodes = append(nodes, n)
		}
		q.Classes[at(c)] = class(old.Size, nodes...)
	}
	for _, root := range p.Roots {
		q.Roots = append(q.Roots, at(root))
	}
	return q
}

// refused holds that a picture is not sound, and that nothing is told of it.
func refused(t *testing.T, what string, p api.Picture) {
	t.Helper()
	if picture.Check(p) != api.ErrForm {
		t.Fatalf("%s: the picture is sound", what)
	}
	if list, bad := facts.Classes(p); len(list) != 0 || bad != api.ErrForm {
		t.Errorf("Classes, %s: %v, %d", what, list, bad)
	}
}

func TestClassesOfWhatIsNotSound(t *testing.T) {
	for what, spoil := range spoils() {
		p := base()
		spoil(&p)
		refused(t, what, p)
	}
	refused(t, "a root of nothing", api.Picture{Roots: []int{0}})
	refused(t, "a class of nothing", pic(api.Class{}))
	refused(t, "MaxClasses+1 classes", line(lit(1), api.MaxClasses+1))
	refused(t, "a million classes", api.Picture{Classes: make([]api.Class, 1<<20)})
	var heap []api.Node
	for i := range api.MaxNodes + 1 {
		heap = append(heap, lit(int64(i)))
	}
	classesKnow(t, pic(class(1, heap[:api.MaxNodes]...)), number(0))
	refused(t, "MaxNodes+1 nodes", pic(class(1, heap...)))
	tower := pic(class(1, lit(1)))
	for level := range 30 {
		tower.Classes = append(tower.Classes, class(4<<level-1, do(api.OpAdd, level, level)))
	}
	refused(t, "a Size above MaxSize", tower)
}

// full is a list with all its spare room.
func full[T any](l []T) []T { return l[:cap(l)] }

// roomy is a copy of a list with spare room, in which something stands.
func roomy[T any](l []T, spare ...T) []T {
	return append(slices.Clone(l), spare...)[:len(l)]
}

// roomyNodes is a copy of nodes whose lists all have spare room.
func roomyNodes(nodes []api.Node) []api.Node {
	out := roomy(nodes, lit(90), vari("spare"), do(api.OpNeg, 0))
	for i := range out {
		out[i].Kids = roomy(out[i].Kids, 0, 1, 0)
	}
	return out
}

// roomyPicture is a copy of a picture whose lists all have spare room.
func roomyPicture(p api.Picture) api.Picture {
	q := api.Picture{Classes: roomy(p.Classes, class(1, lit(9)), class(1, vari("spare"))), Roots: roomy(p.Roots, 0, 1, 0)}
	for i := range q.Classes {
		q.Classes[i].Nodes = roomyNodes(q.Classes[i].Nodes)
	}
	return q
}

// all is everything that stands in nodes, spare room too.
func all(nodes []api.Node) string {
	var s strings.Builder
	for _, n := range full(nodes) {
		fmt.Fprintln(&s, n.Op, n.N, n.Name, len(n.Kids), full(n.Kids))
	}
	return s.String()
}

// allOf is everything that stands in a picture, spare room too.
func allOf(p api.Picture) string {
	var s strings.Builder
	for _, c := range full(p.Classes) {
		fmt.Fprintln(&s, c.Size, len(c.Nodes), all(c.Nodes))
	}
	return s.String() + fmt.Sprintln(len(p.Classes), len(p.Roots), full(p.Roots))
}

// ask makes both calls, and writes their answers out.
func ask(e []api.Node, p api.Picture) string {
	f, bad := facts.Of(e)
	list, worse := facts.Classes(p)
	return fmt.Sprintln(f, bad, list, worse)
}

// left holds that what is handed in is not changed, sound or not, spare room included, and that what stands in that is not looked at.
func left(t *testing.T, e []api.Node, p api.Picture) {
	t.Helper()
	a, b := roomyNodes(e), roomyPicture(p)
	was, wasOf := all(a), allOf(b)
	if is, want := ask(a, b), ask(e, p); is != want {
		t.Fatalf("%s, want %s", is, want)
	}
	if all(a) != was || allOf(b) != wasOf {
		t.Fatalf("what was handed in is changed: %v, %s", e, text(p))
	}
}

func TestHandedInIsLeft(t *testing.T) {
	r := rand.New(rand.NewSource(1311))
	for range 500 {
		left(t, chanceExpr(r, leaves, 4), chance(t, r, 3, r.Intn(6)))
	}
	for _, e := range faults() {
		left(t, e, base())
	}
	for _, spoil := range spoils() {
		p := base()
		spoil(&p)
		left(t, nil, p)
	}
}

// TestAnswersHaveTheirOwnMemory: what is written into an answer, spare room too, is in no other one.
func TestAnswersHaveTheirOwnMemory(t *testing.T) {
	p := base()
	var lists [][]api.Fact
	owners := map[*api.Fact]int{}
	for round := range 5 {
		list := must(t, p)
		for i := range full(list) {
			if was, there := owners[&full(list)[i]]; there {
				t.Fatalf("the answers %d and %d share memory", was, round)
			}
			owners[&full(list)[i]] = round
		}
		lists = append(lists, list)
	}
	for i := range full(lists[2]) {
		full(lists[2])[i] = api.Fact{Const: true, N: 77}
	}
	lists[2] = must(t, p)
	for round, list := range lists {
		if !slices.Equal(list, factsOfBase()) {
			t.Errorf("answer %d is %v", round, list)
		}
	}
	if allOf(p) != allOf(base()) {
		t.Error("the picture is changed")
	}
}

// TestWrittenOverLater: what is written into a picture behind a call is not in its answer, and is in the next one.
func TestWrittenOverLater(t *testing.T) {
	p, e := base(), read(t, "6 / 2")
	list := must(t, p)
	f, _ := facts.Of(e)
	p.Classes[0].Nodes[0], p.Classes[1].Nodes[0], e[1] = lit(-2), lit(1), lit(0)
	if !slices.Equal(list, factsOfBase()) || f != number(3) {
		t.Errorf("%v, %v", list, f)
	}
	knows(t, e, nothing)
	classesKnow(t, p, number(-2), number(1), number(7), sure, sure, number(-4), sure, number(49), sure, sure, sure)
}

// TestNothingIsKept: what is asked of one thing is in no answer about another, and the same is answered again, in any row and at one time.
func TestNothingIsKept(t *testing.T) {
	r := rand.New(rand.NewSource(1312))
	var questions []func() string
	var want []string
	put := func(e []api.Node, p api.Picture) {
		f := func() string { return ask(e, p) }
		questions, want = append(questions, f), append(want, f())
	}
	for range 60 {
		put(chanceExpr(r, leaves, 4), chance(t, r, 3, r.Intn(6)))
	}
	put(nil, api.Picture{Roots: []int{0}})
	put(read(t, "2 + 2"), base())
	for range 300 {
		i := r.Intn(len(questions))
		if is := questions[i](); is != want[i] {
			t.Fatalf("%s, was %s", is, want[i])
		}
	}
	done := make(chan bool)
	for range 8 {
		go func() {
			ok := true
			for i, f := range questions {
				ok = ok && f() == want[i]
			}
			done <- ok
		}()
	}
	for range 8 {
		if !<-done {
			t.Error("another answer, where several ask at one time")
		}
	}
}
