package graph_test

import (
	"fmt"
	"math/rand"
	"slices"
	"strings"
	"testing"
	"unsafe"

	"sorrel/api"
	"sorrel/graph"
)

// P11.6

func TestNil(t *testing.T) {
	var x *graph.Graph
	all := [][]api.Node{name("a"), read(t, "a*a + 1"), long(api.MaxTerm)}
	for _, e := range faults() {
		all = append(all, e)
	}
	for range 2 {
		for i, e := range all {
			other := all[(i*5+1)%len(all)]
			if bad := x.Add(e); bad != api.ErrArg {
				t.Errorf("Add(%v) = %d", e, bad)
			}
			if bad := x.Merge(e, other); bad != api.ErrArg {
				t.Errorf("Merge(%v, %v) = %d", e, other, bad)
			}
			if ok, bad := x.Has(e); ok || bad != api.ErrArg {
				t.Errorf("Has(%v) = %v, %d", e, ok, bad)
			}
			if ok, bad := x.Same(e, other); ok || bad != api.ErrArg {
				t.Errorf("Same(%v, %v) = %v, %d", e, other, ok, bad)
			}
		}
		if p, bad := x.Picture(); len(p.Classes) != 0 || len(p.Roots) != 0 || bad != api.ErrArg {
			t.Errorf("Picture() = %v, %d", p, bad)
		}
		if y := x.Copy(); y != nil {
			t.Errorf("Copy() = %v", y)
		}
	}
}

// The rules that hold for all calls

// TestGraphNotMadeByNew: R1 holds for it too.
func TestGraphNotMadeByNew(t *testing.T) {
	x := pair{&graph.Graph{}, &plain{}}
	x.agree(t, name("a"))
	pair{x.x.Copy(), &plain{}}.agree(t, name("a"))
	x.merge(t, read(t, "a*a + 1"), name("a"))
	x.add(t, read(t, "-a"))
	x.agree(t, name("a"), read(t, "a*a"))
}

// TestTwoGraphs: what one is told the other knows nothing of, also while several are told at one time.
func TestTwoGraphs(t *testing.T) {
	r := rand.New(rand.NewSource(131))
	x, y := paired(), paired()
	for range 20 {
		a, b := random(r, 1+r.Intn(6), fewOps, fewLeaves), random(r, 1+r.Intn(6), fewOps, fewLeaves)
		x.merge(t, a, b)
		y.agree(t, a, b)
		y.add(t, b)
		x.agree(t, a, b)
		x, y = y, x
	}
	done := make(chan string)
	for range 8 {
		go func() {
			r := rand.New(rand.NewSource(132))
			x := graph.New()
			for range 40 {
				x.Add(random(r, 1+r.Intn(30), everyOp(), fewLeaves))
				x.Merge(random(r, 1+r.Intn(5), everyOp(), fewLeaves), random(r, 1+r.Intn(5), everyOp(), fewLeaves))
			}
			p, _ := x.Picture()
			done <- text(p)
		}()
	}
	first := <-done
	for range 7 {
		if other := <-done; other != first {
			t.Errorf("of the same calls: %s and %s", first, other)
		}
	}
}

// TestAskedAtOneTime: questions change nothing, so that several may be asked at one time.
func TestAskedAtOneTime(t *testing.T) {
	x := told(t, "a = a+1", "b = -c", "a*b", "(a - b) * (b - a)", "b = a*b")
	was := look(t, x)
	done := make(chan string)
	for range 8 {
		go func() {
			for range 50 {
				x.Has(list(vari("a"), vari("c"), do(api.OpMul, 0, 1)))
				x.Same(name("a"), name("c"))
				x.Copy().Add(name("z"))
			}
			p, _ := x.Picture()
			done <- text(p)
		}()
	}
	for range 8 {
		if is := <-done; is != was {
			t.Errorf("%s, was %s", is, was)
		}
	}
}

// roomy is a copy of a list whose lists all have spare room, with something in it.
func roomy(l []api.Node) []api.Node {
	out := make([]api.Node, 0, len(l)+3)
	for _, n := range l {
		k := append(slices.Clone(n.Kids), 0, 1, 0)
		n.Kids = k[:len(n.Kids)]
		out = append(out, n)
	}
	copy(out[len(l):cap(out)], list(lit(90), vari("spare"), do(api.OpNeg, 0)))
	return out
}

// roomyPicture is a copy of a picture whose lists all have spare room, with something in it.
func roomyPicture(p api.Picture) api.Picture {
	classes := make([]api.Class, 0, len(p.Classes)+2)
	for _, c := range p.Classes {
		classes = append(classes, api.Class{Nodes: roomy(c.Nodes), Size: c.Size})
	}
	copy(classes[len(p.Classes):cap(classes)], []api.Class{class(9, lit(9)), class(7, vari("spare"))})
	roots := append(slices.Clone(p.Roots), 0, 1, 0)
	return api.Picture{Classes: classes, Roots: roots[:len(p.Roots)]}
}

// whole is all that a list holds, spare room too.
func whole(l []api.Node) string {
	var s strings.Builder
	for _, n := range l[:cap(l)] {
		fmt.Fprint(&s, n.Op, n.N, n.Name, len(n.Kids), n.Kids[:cap(n.Kids)], ";")
	}
	return s.String()
}

// wholePicture is all that a picture holds, spare room too.
func wholePicture(p api.Picture) string {
	var s strings.Builder
	for _, c := range p.Classes[:cap(p.Classes)] {
		fmt.Fprint(&s, whole(c.Nodes), len(c.Nodes), c.Size, "|")
	}
	return s.String() + fmt.Sprint(len(p.Classes), len(p.Roots), p.Roots[:cap(p.Roots)])
}

// spoil writes into all that a list holds, spare room too.
func spoil(l []api.Node) {
	for i := range l[:cap(l)] {
		n := &l[:cap(l)][i]
		for k := range n.Kids[:cap(n.Kids)] {
			n.Kids[:cap(n.Kids)][k] = 77
		}
		*n = api.Node{Op: -7, N: 7, Name: "spoilt"}
	}
}

// spoilPicture writes into all that a picture holds, spare room too.
func spoilPicture(p api.Picture) {
	for i := range p.Classes[:cap(p.Classes)] {
		c := &p.Classes[:cap(p.Classes)][i]
		spoil(c.Nodes)
		*c = class(-5, vari("spoilt"))
	}
	for i := range p.Roots[:cap(p.Roots)] {
		p.Roots[:cap(p.Roots)][i] = 77
	}
}

// TestHandedInIsLeft: lists that are handed in are not changed, and what is written into them later is not seen.
func TestHandedInIsLeft(t *testing.T) {
	r := rand.New(rand.NewSource(133))
	for range 10 {
		x, y := graph.New(), graph.New()
		for range 15 {
			a, b := random(r, 1+r.Intn(9), fewOps, fewLeaves), random(r, 1+r.Intn(9), fewOps, fewLeaves)
			c, d := roomy(a), roomy(b)
			was := whole(c) + whole(d)
			x.Has(c)
			x.Same(c, d)
			add(t, x, c)
			merge(t, x, c, d)
			x.Has(d)
			x.Same(d, c)
			if is := whole(c) + whole(d); is != was {
				t.Fatalf("what was handed in is %s, was %s", is, was)
			}
			spoil(c)
			spoil(d)
			add(t, y, a)
			merge(t, y, a, b)
			if is, want := look(t, x), look(t, y); is != want {
				t.Fatalf("%s, want %s", is, want)
			}
		}
	}
	x := told(t, "a+1")
	for what, e := range faults() {
		e = roomy(e)
		was := whole(e)
		x.Add(e)
		x.Merge(name("a"), e)
		x.Merge(e, name("a"))
		x.Has(e)
		x.Same(e, e)
		if whole(e) != was {
			t.Errorf("a list that is not sound (%s) is changed", what)
		}
	}
}

// TestPicturesHandedInAreLeft: so are pictures, sound ones and others.
func TestPicturesHandedInAreLeft(t *testing.T) {
	r := rand.New(rand.NewSource(134))
	for round := range 200 {
		p := stacked(r, everyOp())
		q := roomyPicture(p)
		if round%2 == 1 {
			spoilOne(r, &q)
		}
		was := wholePicture(q)
		x, bad := graph.Of(q)
		if is := wholePicture(q); is != was {
			t.Fatalf("the picture that was handed in is %s, was %s", is, was)
		}
		if round%2 == 1 {
			continue
		}
		if bad != api.OK {
			t.Fatalf("Of(%s): %d", text(p), bad)
		}
		spoilPicture(q)
		if is := look(t, x); is != text(p) {
			t.Fatalf("%s, want %s", is, text(p))
		}
	}
}

// TestNamesAreNotKept: a name that is a piece of a great text does not hold on to it.
func TestNamesAreNotKept(t *testing.T) {
	great := strings.Repeat("abcdefgh", 500)
	begin := uintptr(unsafe.Pointer(unsafe.StringData(great)))
	x := graph.New()
	add(t, x, list(vari(great[8:12]), do(api.OpNeg, 0)))
	merge(t, x, name(great[16:21]), name(great[3:5]))
	y, bad := graph.Of(api.Picture{Classes: []api.Class{class(1, vari(great[24:27]))}})
	if bad != api.OK {
		t.Fatal(bad)
	}
	for _, g := range []*graph.Graph{x, y, x.Copy()} {
		for _, c := range picture(t, g).Classes {
			for _, n := range c.Nodes {
				if n.Op != api.OpVar {
					continue
				}
				if at := uintptr(unsafe.Pointer(unsafe.StringData(n.Name))); at >= begin && at < begin+uintptr(len(great)) {
					t.Errorf("%s is a piece of the text that was handed in", n.Name)
				}
			}
		}
	}
}

// cells has the address of every element that lists hold, spare room too.
func cells(nodes []api.Node) []any {
	var out []any
	for i := range nodes[:cap(nodes)] {
		n := &nodes[:cap(nodes)][i]
		out = append(out, n)
		for k := range n.Kids[:cap(n.Kids)] {
			out = append(out, &n.Kids[:cap(n.Kids)][k])
		}
	}
	return out
}

// cellsOf has the address of every element that a picture's lists hold, spare room too.
func cellsOf(p api.Picture) []any {
	var out []any
	for i := range p.Classes[:cap(p.Classes)] {
		c := &p.Classes[:cap(p.Classes)][i]
		out = append(append(out, c), cells(c.Nodes)...)
	}
	for i := range p.Roots[:cap(p.Roots)] {
		out = append(out, &p.Roots[:cap(p.Roots)][i])
	}
	return out
}

// TestAnswersHaveTheirOwnMemory: no two pictures share any, no two lists of one do, and none shares any with what was handed in.
func TestAnswersHaveTheirOwnMemory(t *testing.T) {
	x := graph.New()
	e, f := roomy(read(t, "a*a + a*a - (c ? a*a : ~a)")), roomy(read(t, "a*b"))
	add(t, x, e)
	merge(t, x, f, name("a"))
	add(t, x, f)
	given := roomyPicture(picture(t, x))
	y, bad := graph.Of(given)
	if bad != api.OK {
		t.Fatal(bad)
	}
	owners := map[any]int{}
	own := func(who int, cells []any) {
		for _, c := range cells {
			if owners[c] != 0 {
				t.Fatalf("memory of %d is that of %d too", who, owners[c])
			}
			owners[c] = who
		}
	}
	own(1, cells(e))
	own(2, cells(f))
	own(3, cellsOf(given))
	for i := range 3 {
		own(4+4*i, cellsOf(picture(t, x)))
		own(5+4*i, cellsOf(picture(t, y)))
		own(6+4*i, cellsOf(picture(t, x.Copy())))
		add(t, y, e)
		own(7+4*i, cellsOf(picture(t, y)))
	}
}

// TestAnswersMayBeWritten: what is written into a picture, spare room too, is in no later answer, and what comes later is in no earlier picture.
func TestAnswersMayBeWritten(t *testing.T) {
	r := rand.New(rand.NewSource(135))
	x := paired()
	var kept []api.Picture
	var were []string
	for range 25 {
		x.merge(t, random(r, 1+r.Intn(6), fewOps, fewLeaves), random(r, 1+r.Intn(6), fewOps, fewLeaves))
		x.add(t, random(r, 1+r.Intn(6), fewOps, fewLeaves))
		p := picture(t, x.x)
		kept, were = append(kept, p), append(were, text(p))
		spoilPicture(picture(t, x.x))
		spoilPicture(picture(t, x.x.Copy()))
		y, _ := graph.Of(p)
		spoilPicture(picture(t, y))
		x.agree(t, name("a"), name("b"))
		if is := look(t, y); is != text(p) {
			t.Fatalf("%s, want %s", is, text(p))
		}
	}
	for i, p := range kept {
		if is := text(p); is != were[i] {
			t.Fatalf("a picture was %s and became %s", were[i], is)
		}
	}
}

// TestAskingChangesNothing: the same is answered again, however often and in whatever order it is asked.
func TestAskingChangesNothing(t *testing.T) {
	r := rand.New(rand.NewSource(136))
	x := paired()
	for range 10 {
		x.merge(t, random(r, 1+r.Intn(6), fewOps, fewLeaves), random(r, 1+r.Intn(6), fewOps, fewLeaves))
	}
	was := look(t, x.x)
	for range 300 {
		a, b := random(r, 1+r.Intn(9), fewOps, fewLeaves), random(r, 1+r.Intn(9), fewOps, fewLeaves)
		x.x.Has(a)
		x.x.Same(a, b)
		x.x.Copy()
		x.x.Add(nil)
		x.x.Merge(a, nil)
		if is := look(t, x.x); is != was {
			t.Fatalf("%s, was %s", is, was)
		}
	}
	x.agree(t)
}

// TestTableBesideTheGraph: what is put into the table by its own promoted methods is in no class, and does the graph no harm.
func TestTableBesideTheGraph(t *testing.T) {
	r := rand.New(rand.NewSource(137))
	for range 20 {
		x := paired()
		var asked [][]api.Node
		for range 12 {
			x.x.Put(lit(int64(r.Intn(3) - 1)))
			x.x.Put(do(api.OpSub, r.Intn(x.x.Len()), r.Intn(x.x.Len())))
			x.x.Table.Add(random(r, 1+r.Intn(6), fewOps, fewLeaves))
			a, b := random(r, 1+r.Intn(6), fewOps, fewLeaves), random(r, 1+r.Intn(6), fewOps, fewLeaves)
			asked = append(asked, a, b)
			x.agree(t, asked...)
			x.add(t, a)
			x.merge(t, a, b)
			x.agree(t, asked...)
			pair{x.x.Copy(), x.p}.agree(t, asked...)
		}
	}
	x := told(t, "a = a+1")
	for i := range api.MaxIds {
		x.Put(lit(int64(i)))
	}
	tell(t, x, "1000000 + a*2 = b", "c")
	if is, want := look(t, x), look(t, told(t, "a = a+1", "1000000 + a*2 = b", "c")); is != want {
		t.Errorf("%s, want %s", is, want)
	}
}
