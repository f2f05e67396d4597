package picture_test

import (
	"fmt"
	"math"
	"math/rand"
	"slices"
	"strings"
	"testing"

	"sorrel/api"
	"sorrel/picture"
)

// The rules that hold for all calls.

// TestNoSuchClass: numbers below 0, and from that of the last class on, are no class's.
func TestNoSuchClass(t *testing.T) {
	for _, p := range []api.Picture{{}, line(1), base(), tower(vari("a"), 29), pairs(api.MaxClasses)} {
		many := len(p.Classes)
		for _, c := range []int{-1, -2, many, many + 1, api.MaxClasses, 1 << 32, math.MaxInt, math.MinInt} {
			if e, bad := picture.Least(p, c); len(e) != 0 || bad != api.ErrArg {
				t.Errorf("Least of class %d of %d: %v, %d", c, many, e, bad)
			}
			for _, most := range []int{0, 3, 5} {
				it, bad := picture.Terms(p, c, most)
				if bad != api.ErrArg {
					t.Errorf("Terms of class %d of %d: %d", c, many, bad)
				}
				empty(t, fmt.Sprint("class ", c), it)
			}
		}
		if many == 0 {
			continue
		}
		for _, c := range []int{0, many - 1} {
			if _, bad := picture.Least(p, c); bad != api.OK && bad != api.ErrLarge {
				t.Errorf("Least of class %d of %d: %d", c, many, bad)
			}
			if it, bad := picture.Terms(p, c, 5); it == nil || bad != api.OK {
				t.Errorf("Terms of class %d of %d: %d", c, many, bad)
			}
		}
	}
}

// TestWhichError: where two count, ErrForm is ahead of ErrArg, and both are ahead of the others.
func TestWhichError(t *testing.T) {
	great := tower(vari("a"), 29)
	unsound := tower(vari("a"), 29)
	unsound.Roots = []int{30}
	for _, c := range []struct {
		p    api.Picture
		c    int
		want api.Errno
	}{
		{great, 29, api.ErrLarge},
		{great, 30, api.ErrArg},
		{great, -1, api.ErrArg},
		{unsound, 29, api.ErrForm},
		{unsound, 30, api.ErrForm},
		{unsound, -1, api.ErrForm},
		{unsound, 0, api.ErrForm},
	} {
		if e, bad := picture.Least(c.p, c.c); len(e) != 0 || bad != c.want {
			t.Errorf("Least(.., %d): %v, %d, want %d", c.c, e, bad, c.want)
		}
		want := c.want
		if want == api.ErrLarge {
			want = api.OK
		}
		it, bad := picture.Terms(c.p, c.c, 4)
		if bad != want {
			t.Errorf("Terms(.., %d, 4): %d, want %d", c.c, bad, want)
		}
		empty(t, "Terms", it)
		if want == api.OK {
			want = api.ErrArg
		}
		it, bad = picture.Terms(c.p, c.c, 6)
		if bad != want {
			t.Errorf("Terms(.., %d, 6): %d, want %d", c.c, bad, want)
		}
		empty(t, "Terms", it)
	}
	for _, c := range []struct {
		p    api.Picture
		e    []api.Node
		want api.Errno
	}{
		{great, read(t, "b"), api.ErrNone},
		{great, []api.Node{vari("b"), do(api.OpAdd, 0)}, api.ErrForm},
		{unsound, read(t, "b"), api.ErrForm},
		{unsound, read(t, "a"), api.ErrForm},
		{unsound, nil, api.ErrForm},
	} {
		if at, bad := picture.Class(c.p, c.e); at != 0 || bad != c.want {
			t.Errorf("Class(.., %v): %d, %d, want %d", c.e, at, bad, c.want)
		}
	}
	// A first picture that is not inside is refused all the same, if the second is not sound.
	for _, c := range [][2]api.Picture{{line(3), unsound}, {unsound, line(3)}, {{}, unsound}, {unsound, {}}} {
		if ok, bad := picture.Inside(c[0], c[1]); ok || bad != api.ErrForm {
			t.Errorf("Inside: %v, %d", ok, bad)
		}
	}
}

// full is a list with all its spare room.
func full[T any](l []T) []T { return l[:cap(l)] }

// roomy is a copy of a list with spare room, in which something stands.
func roomy[T any](l []T, spare ...T) []T {
	return append(slices.Clone(l), spare...)[:len(l)]
}

// roomyNodes is a copy of nodes whose lists all have spare room.
func roomyNodes(nodes []api.Node) []api.Node {
	out := roomy(nodes, lit(90), vari("spare"), do(api.OpNeg, 0))
	for i := range out {
		out[i].Kids = roomy(out[i].Kids, 0, 1, 0)
	}
	return out
}

// roomyPicture is a copy of a picture whose lists all have spare room.
func roomyPicture(p api.Picture) api.Picture {
	q := api.Picture{Classes: roomy(p.Classes, class(1, lit(9)), class(1, vari("spare"))), Roots: roomy(p.Roots, 0, 1, 0)}
	for i := range q.Classes {
		q.Classes[i].Nodes = roomyNodes(q.Classes[i].Nodes)
	}
	return q
}

// cells goes through the elements of all lists that nodes have, spare room too.
func cells(nodes []api.Node, see func(cell any)) {
	for i := range full(nodes) {
		n := &full(nodes)[i]
		for k := range full(n.Kids) {
			see(&full(n.Kids)[k])
		}
		see(n)
	}
}

// cellsOf goes through the elements of all lists that a picture has, spare room too.
func cellsOf(p api.Picture, see func(cell any)) {
	for i := range full(p.Classes) {
		c := &full(p.Classes)[i]
		cells(c.Nodes, see)
		see(c)
	}
	for i := range full(p.Roots) {
		see(&full(p.Roots)[i])
	}
}

// spoil writes something else into an element.
func spoil(cell any) {
	switch c := cell.(type) {
	case *int:
		*c = 77
	case *api.Node:
		*c = api.Node{Op: -7, N: 7, Name: "spoilt", Kids: []int{77}}
	case *api.Class:
		*c = class(-5, vari("spoilt"))
	}
}

// written is what stands in the elements that a function goes through.
func written(through func(see func(cell any))) string {
	var s strings.Builder
	through(func(cell any) {
		switch c := cell.(type) {
		case *int:
			fmt.Fprintln(&s, *c)
		case *api.Node:
			fmt.Fprintln(&s, c.Op, c.N, c.Name, len(c.Kids), cap(c.Kids))
		case *api.Class:
			fmt.Fprintln(&s, c.Size, len(c.Nodes), cap(c.Nodes))
		}
	})
	return s.String()
}

// ask makes all calls with what is given, and writes their answers out.
func ask(p, q api.Picture, e []api.Node, c, most int) string {
	many, bad := picture.Nodes(p)
	s := fmt.Sprintln(picture.Check(p), many, bad)
	s += fmt.Sprintln(picture.Class(p, e))
	s += fmt.Sprintln(picture.Least(p, c))
	it, bad := picture.Terms(p, c, most)
	s += fmt.Sprintln(slices.Collect(it), bad)
	s += fmt.Sprintln(picture.Inside(p, q))
	return s + fmt.Sprintln(picture.Inside(q, p))
}

// TestHandedInIsLeft: neither pictures nor expressions are changed, sound or not, spare room included, and what stands in that is not looked at.
func TestHandedInIsLeft(t *testing.T) {
	r := rand.New(rand.NewSource(1221))
	for round := range 600 {
		ops := opsOf(round)
		p, q := chance(r, 8, 0, fewLeaves, ops), chance(r, 8, 0, fewLeaves, ops)
		all := slices.Concat(every(3, fewLeaves, ops)...)
		e := all[r.Intn(len(all))]
		if round%5 == 0 {
			spoilOne(r, &p)
		}
		if round%7 == 0 {
			e = e[1:]
		}
		c, most := r.Intn(len(p.Classes)+2)-1, r.Intn(8)-1
		a, b, f := roomyPicture(p), roomyPicture(q), roomyNodes(e)
		given := func(see func(cell any)) {
			cellsOf(a, see)
			cellsOf(b, see)
			cells(f, see)
		}
		was := written(given)
		if is, want := ask(a, b, f, c, most), ask(p, q, e, c, most); is != want {
			t.Fatalf("%s, want %s", is, want)
		}
		if written(given) != was {
			t.Fatalf("what was handed in is changed: %s, %s, %v", text(a), text(b), f)
		}
	}
}

// TestSpoiltAreLeft: nor are pictures that are not sound, in whatever way.
func TestSpoiltAreLeft(t *testing.T) {
	for what, spoil := range spoils() {
		p := base()
		spoil(&p)
		p = roomyPicture(p)
		look := func(see func(cell any)) { cellsOf(p, see) }
		was := written(look)
		ask(p, base(), read(t, "a+1"), 2, 4)
		if written(look) != was {
			t.Errorf("%s: the picture is changed", what)
		}
	}
}

// TestAnswersHaveTheirOwnMemory: no two lists share any, of one answer, of several, or of what was handed in.
func TestAnswersHaveTheirOwnMemory(t *testing.T) {
	owners := map[any]string{}
	own := func(who string) func(cell any) {
		return func(cell any) {
			if owners[cell] != "" {
				t.Fatalf("memory of %s is that of %s too", who, owners[cell])
			}
			owners[cell] = who
		}
	}
	p := roomyPicture(base())
	cellsOf(p, own("the picture"))
	for round := range 3 {
		for c := range p.Classes {
			e, bad := picture.Least(p, c)
			if bad != api.OK {
				t.Fatal(bad)
			}
			cells(e, own(fmt.Sprint("Least, ", c, round)))
			it, bad := picture.Terms(p, c, 5)
			if bad != api.OK {
				t.Fatal(bad)
			}
			for loop := range 2 {
				at := 0
				for e := range it {
					cells(e, own(fmt.Sprint("Terms, ", c, round, loop, at)))
					at++
				}
			}
		}
	}
}

// TestAnswersMayBeWritten: what is written into answers is in no later one, and not in the picture.
func TestAnswersMayBeWritten(t *testing.T) {
	p := base()
	was := ask(p, base(), read(t, "a+1"), 2, 5)
	for range 3 {
		for c := range p.Classes {
			e, _ := picture.Least(p, c)
			cells(e, spoil)
			it, _ := picture.Terms(p, c, 5)
			for e := range it {
				cells(e, spoil)
			}
		}
		if is := ask(p, base(), read(t, "a+1"), 2, 5); is != was || text(p) != text(base()) {
			t.Fatalf("%s, was %s", is, was)
		}
	}
}

// TestNothingIsKept: what is asked of one picture is in no answer about another, and the same is answered again, in any row and at one time.
func TestNothingIsKept(t *testing.T) {
	r := rand.New(rand.NewSource(1222))
	var questions []func() string
	var want []string
	for round := range 60 {
		ops := opsOf(round)
		p, q := chance(r, 8, round%2, fewLeaves, ops), chance(r, 8, 0, fewLeaves, ops)
		e := every(3, fewLeaves, ops)[3][r.Intn(10)]
		c, most := r.Intn(len(p.Classes)+1), r.Intn(6)
		f := func() string { return ask(p, q, e, c, most) }
		questions, want = append(questions, f), append(want, f())
	}
	for range 300 {
		i := r.Intn(len(questions))
		if is := questions[i](); is != want[i] {
			t.Fatalf("%s, was %s", is, want[i])
		}
	}
	done := make(chan bool)
	for range 8 {
		go func() {
			ok := true
			for i, f := range questions {
				ok = ok && f() == want[i]
			}
			done <- ok
		}()
	}
	for range 8 {
		if !<-done {
			t.Error("another answer, where several ask at one time")
		}
	}
}

// TestWrittenOverLater: what is written into a picture behind a call is not in the answers of that call.
func TestWrittenOverLater(t *testing.T) {
	for c := range base().Classes {
		p := roomyPicture(base())
		e, bad := picture.Least(p, c)
		if bad != api.OK {
			t.Fatal(bad)
		}
		cellsOf(p, spoil)
		least(t, base(), c, e)
	}
}
