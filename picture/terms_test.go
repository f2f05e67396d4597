package picture_test

import (
	"fmt"
	"math"
	"math/rand"
	"slices"
	"strings"
	"testing"

	"sorrel/api"
	"sorrel/expr"
	"sorrel/picture"
	"sorrel/show"
)

// P12.4

// termsOf is what Terms gives.
func termsOf(t *testing.T, p api.Picture, c, most int) [][]api.Node {
	t.Helper()
	it, bad := picture.Terms(p, c, most)
	if bad != api.OK || it == nil {
		t.Fatalf("Terms(%s, %d, %d): %d", text(p), c, most, bad)
	}
	return slices.Collect(it)
}

// texts is expressions, written out.
func texts(t *testing.T, list [][]api.Node) string {
	t.Helper()
	var out []string
	for _, e := range list {
		s, bad := show.Show(e)
		if bad != api.OK {
			t.Fatalf("Show(%v): %d", e, bad)
		}
		out = append(out, s)
	}
	return strings.Join(out, "; ")
}

// gives holds Terms against a list of texts.
func gives(t *testing.T, p api.Picture, c, most int, want string) {
	t.Helper()
	if is := texts(t, termsOf(t, p, c, most)); is != want {
		t.Fatalf("Terms(%s, %d, %d) gives %s, want %s", text(p), c, most, is, want)
	}
}

func TestTerms(t *testing.T) {
	p := base()
	for c, rows := range [][]string{
		{"", "-1", "-1"},
		{"", "1", "1", "1"},
		{"", "a; b", "a; b", "a; b; a + 1; b + 1", "a; b; a + 1; b + 1", "a; b; a + 1; b + 1; a + 1 + 1; b + 1 + 1"},
		{"", "c", "c", "c"},
		{"", "", "-a; -b; -c", "-a; -b; -c; -1 - a; -1 - b", "-a; -b; -c; -1 - a; -1 - b; -(a + 1); -(b + 1)", "-a; -b; -c; -1 - a; -1 - b; -(a + 1); -(b + 1); -1 - (a + 1); -1 - (b + 1)"},
		{"", "", "~c", "~c", "~c", "~c"},
		{"", "", "", "a - c; b - c", "a - c; b - c; -1 ? 1 : a; -1 ? 1 : b", "a - c; b - c; -1 ? 1 : a; -1 ? 1 : b; a + 1 - c; b + 1 - c"},
		{"", "", "", "c - a; c - b", "c - a; c - b", "c - a; c - b; c - (a + 1); c - (b + 1)"},
		{"", "", "", "", "-(c - a); -(c - b)", "-(c - a); -(c - b)"},
	} {
		for most, want := range rows {
			gives(t, p, c, most, want)
		}
	}
}

// TestTermsInOrder: expressions of nodes that stand in another order than they do.
func TestTermsInOrder(t *testing.T) {
	for _, c := range []struct {
		lines []string
		s     string
		most  int
		want  string
	}{
		// Of the negations, that of the earlier class comes ahead by its leaf, and behind by its sum.
		{[]string{"a = y+y", "b = x+x", "-a = -b"}, "-a", 4, "-a; -b; -(x + x); -(y + y)"},
		{[]string{"a = -y", "b = ~x", "c = -x", "~a = ~b", "~b = ~c"}, "~a", 3, "~a; ~b; ~c; ~-x; ~-y; ~~x"},
		// By the first part's size ahead of all else.
		{[]string{"a = -a", "a+a"}, "a+a", 5, "a + a; a + -a; -a + a; a + --a; -a + -a; --a + a"},
		{[]string{"a = ~a", "b = ~b", "a*b"}, "a*b", 5, "a * b; a * ~b; ~a * b; a * ~~b; ~a * ~b; ~~a * b"},
		{[]string{"a = ~a", "a ? a : a"}, "a ? a : a", 5, "a ? a : a; a ? a : ~a; a ? ~a : a; ~a ? a : a"},
		// Lesser operators first, whatever their parts are.
		{[]string{"z+z = a-a", "a-a = 0*0", "a-a = ~~z"}, "z+z", 3, "~~z; z + z; a - a; 0 * 0"},
		{[]string{"5 = a", "a = -7", "a = A"}, "a", 2, "-7; 5; A; a"},
		{[]string{"é = a", "a = ab", "a = 名", "a = b"}, "a", 1, "a; ab; b; é; 名"},
		// Several ways round.
		{[]string{"-(-a) = a"}, "a", 5, "a; --a; ----a"},
		{[]string{"-(-a) = a"}, "-a", 5, "-a; ---a"},
		{[]string{"a = -b", "b = ~a"}, "a", 4, "a; -b; -~a; -~-b"},
		{[]string{"a = b ? a : a", "b"}, "a", 5, "a; b ? a : a"},
	} {
		p := told(t, c.lines...)
		gives(t, p, where(p, read(t, c.s)), c.most, c.want)
	}
}

// TestTermsAboutMost: below 0 and above 5 it is no number that may be asked for.
func TestTermsAboutMost(t *testing.T) {
	p := pic(class(1, vari("a"), do(api.OpNeg, 0)))
	for most, want := range []string{"", "a", "a; -a", "a; -a; --a", "a; -a; --a; ---a", "a; -a; --a; ---a; ----a"} {
		gives(t, p, 0, most, want)
	}
	for _, most := range []int{-1, 6, 7, api.MaxTerm, -5, math.MaxInt, math.MinInt, 1 << 32, 1<<32 + 3} {
		for _, c := range []int{0, -1, 1} {
			it, bad := picture.Terms(p, c, most)
			if bad != api.ErrArg {
				t.Errorf("Terms(.., %d, %d): %d", c, most, bad)
			}
			empty(t, fmt.Sprint("most ", most), it)
		}
	}
}

// TestTermsAboutMaxTerms: one fewer, just as many, one more, and very many more.
func TestTermsAboutMaxTerms(t *testing.T) {
	numbers := func(many int) string {
		var list []string
		for i := range many {
			list = append(list, fmt.Sprint(i))
		}
		return strings.Join(list, "; ")
	}
	for _, many := range []int{1, api.MaxTerms - 1, api.MaxTerms, api.MaxTerms + 1, 1000, api.MaxNodes} {
		p := heap(many)
		for most := 1; most <= 5; most++ {
			gives(t, p, 0, most, numbers(min(many, api.MaxTerms)))
		}
		gives(t, p, 0, 0, "")
	}
	// So many leaves, and a ring of negations above, which fill up what is left.
	for leaves := 1; leaves <= api.MaxTerms+1; leaves++ {
		p := heap(leaves)
		p.Classes[0].Nodes = append(p.Classes[0].Nodes, do(api.OpNeg, 0), do(api.OpSub, 0, 0))
		all := every(5, literals(leaves), fewOps)[:min(6, 1+100/leaves)]
		want := slices.Concat(all...)
		want = want[:min(len(want), api.MaxTerms)]
		gives(t, p, 0, min(5, len(all)-1), texts(t, want))
	}
	// More than could be gone through: the parts are of MaxNodes-4 leaves.
	p := heap(api.MaxNodes - 4)
	p.Classes = append(p.Classes, class(2, do(api.OpNeg, 0)), class(3, do(api.OpSub, 0, 0)), class(4, do(api.OpIf, 0, 0, 0)), class(5, do(api.OpSub, 2, 0)))
	row := func(form string) string {
		var list []string
		for i := range api.MaxTerms {
			list = append(list, fmt.Sprintf(form, i))
		}
		return strings.Join(list, "; ")
	}
	for c, form := range map[int]string{2: "0 - %d", 3: "0 ? 0 : %d", 4: "0 - 0 - %d"} {
		gives(t, p, c, 5, row(form))
	}
	for i := range api.MaxTerms {
		located(t, p, read(t, fmt.Sprintf("0 - %d", i)), 2)
	}
}

// TestTermsOfClassesAboveFive: the least expression has more nodes than may be asked for.
func TestTermsOfClassesAboveFive(t *testing.T) {
	p := line(200)
	for c := range p.Classes {
		for most := range 6 {
			want := 0
			if c < most {
				want = 1
			}
			if list := termsOf(t, p, c, most); len(list) != want {
				t.Fatalf("Terms(.., %d, %d) gives %v", c, most, list)
			}
		}
	}
	gives(t, tower(vari("a"), 29), 29, 5, "")
	gives(t, tower(vari("a"), 29), 1, 5, "a + a")
}

// TestTermsByChance: against all expressions that there are, of each class and each most.
func TestTermsByChance(t *testing.T) {
	r := rand.New(rand.NewSource(1211))
	cut, whole := 0, 0
	for kind, rounds := range []int{600, 200, 15} {
		ops := opsOf(kind)
		all := slices.Concat(every(5, fewLeaves, ops)...)
		for i := 1; i < len(all); i++ {
			if c, _ := expr.Order(all[i-1], all[i]); c != -1 {
				t.Fatalf("%v stands ahead of %v", all[i-1], all[i])
			}
		}
		for range rounds {
			p := chance(r, 1+r.Intn(6), 0, fewLeaves, ops)
			want := make([][][]api.Node, len(p.Classes))
			for _, e := range all {
				if c := where(p, e); c >= 0 {
					want[c] = append(want[c], e)
				}
			}
			for c := range p.Classes {
				for most := range 6 {
					few := slices.DeleteFunc(slices.Clone(want[c]), func(e []api.Node) bool { return len(e) > most })
					if len(few) > api.MaxTerms {
						few = few[:api.MaxTerms]
						cut++
					} else if len(few) > 0 {
						whole++
					}
					if is := termsOf(t, p, c, most); !slices.EqualFunc(is, few, sameList) {
						t.Fatalf("Terms(%s, %d, %d) gives %s, want %s", text(p), c, most, texts(t, is), texts(t, few))
					}
				}
			}
		}
	}
	if cut < 100 || whole < 500 {
		t.Errorf("%d lists were cut, %d were whole", cut, whole)
	}
}

// TestTermsStop: a loop that is left is given no more, wherever it is left.
func TestTermsStop(t *testing.T) {
	p := heap(50)
	p.Classes[0].Nodes = append(p.Classes[0].Nodes, do(api.OpNeg, 0))
	it, bad := picture.Terms(p, 0, 5)
	if bad != api.OK {
		t.Fatal(bad)
	}
	for stop := 1; stop <= api.MaxTerms; stop++ {
		given := 0
		it(func(e []api.Node) bool {
			if given++; given > stop {
				t.Fatalf("one more is given behind %d", stop)
			}
			return given < stop
		})
		if given != stop {
			t.Errorf("%d are given, want %d", given, stop)
		}
	}
	for e := range it {
		if !sameList(e, []api.Node{lit(0)}) {
			t.Errorf("the first is %v", e)
		}
		break
	}
}

// TestTermsAgain: the same is given again, whatever has become of the picture and of what was given, and also in loops inside each other and at one time.
func TestTermsAgain(t *testing.T) {
	r := rand.New(rand.NewSource(1212))
	for round := range 200 {
		p := chance(r, 6, 0, fewLeaves, opsOf(round))
		for c := range p.Classes {
			q := roomyPicture(p)
			want := texts(t, termsOf(t, p, c, 5))
			it, bad := picture.Terms(q, c, 5)
			if bad != api.OK {
				t.Fatal(bad)
			}
			if round%2 == 0 {
				cellsOf(q, spoil)
			}
			again := func(what string) {
				t.Helper()
				if is := texts(t, slices.Collect(it)); is != want {
					t.Fatalf("%s: %s, want %s", what, is, want)
				}
			}
			again("the first time")
			cellsOf(q, spoil)
			again("behind a written picture")
			for e := range it {
				cells(e, spoil)
				if r.Intn(8) == 0 {
					again("inside a loop")
				}
				if r.Intn(8) == 0 {
					break
				}
			}
			again("behind a loop that has written")
		}
	}
}

// TestTermsAtOneTime: several may range over one iterator.
func TestTermsAtOneTime(t *testing.T) {
	it, bad := picture.Terms(base(), 4, 5)
	if bad != api.OK {
		t.Fatal(bad)
	}
	want := texts(t, slices.Collect(it))
	done := make(chan [][]api.Node)
	for range 8 {
		go func() {
			var list [][]api.Node
			for range 50 {
				list = slices.Collect(it)
			}
			done <- list
		}()
	}
	for range 8 {
		if is := texts(t, <-done); is != want {
			t.Errorf("%s, want %s", is, want)
		}
	}
}
