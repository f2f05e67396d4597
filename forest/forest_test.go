package forest_test

import (
	"errors"
	"fmt"
	"maps"
	"math"
	"math/rand"
	"reflect"
	"slices"
	"testing"

	"sorrel/api"
	"sorrel/forest"
)

// grown is a forest of so many members, each alone.
func grown(t *testing.T, many int) *forest.Forest {
	t.Helper()
	f := forest.New()
	for i := range many {
		if n, bad := f.Add(); n != i || bad != api.OK {
			t.Fatalf("Add() = %d, %d, want %d", n, bad, i)
		}
	}
	return f
}

// joins makes a joint and holds the answer against what is wanted.
func joins(t *testing.T, f *forest.Forest, a, b int, why any, want bool) {
	t.Helper()
	if got, bad := f.Join(a, b, why); got != want || bad != api.OK {
		t.Fatalf("Join(%d, %d, %v) = %v, %d, want %v", a, b, why, got, bad, want)
	}
}

// way is what Path answers where there is one.
func way(t *testing.T, f *forest.Forest, a, b int) []api.Edge {
	t.Helper()
	l, bad := f.Path(a, b)
	if bad != api.OK {
		t.Fatalf("Path(%d, %d): %d", a, b, bad)
	}
	return l
}

// group is what Group answers of a member.
func group(t *testing.T, f *forest.Forest, a int) []int {
	t.Helper()
	l, bad := f.Group(a)
	if bad != api.OK {
		t.Fatalf("Group(%d): %d", a, bad)
	}
	return l
}

// pair is a forest and the second reckoning of it, to which the same is told.
type pair struct {
	f *forest.Forest
	p *plain
}

func paired(t *testing.T, many int) pair {
	t.Helper()
	return pair{grown(t, many), &plain{many: many}}
}

// join makes a joint in both, which are to answer alike.
func (x pair) join(t *testing.T, a, b int, why any) bool {
	t.Helper()
	want := x.p.join(a, b, why)
	joins(t, x.f, a, b, why, want)
	return want
}

// agree holds every question on all members against the second reckoning. Reasons are to be such that can be compared.
func (x pair) agree(t *testing.T) {
	t.Helper()
	if n := x.f.Len(); n != x.p.many {
		t.Fatalf("Len() = %d, want %d", n, x.p.many)
	}
	for a := range x.p.many {
		want := x.p.reach(a)
		if l := group(t, x.f, a); !slices.Equal(l, want) {
			t.Fatalf("%v: Group(%d) = %v, want %v", x.p.joints, a, l, want)
		}
		if n, bad := x.f.Least(a); n != want[0] || bad != api.OK {
			t.Fatalf("%v: Least(%d) = %d, %d, want %d", x.p.joints, a, n, bad, want[0])
		}
		ways := x.p.ways(a)
		for b := range x.p.many {
			path, there := ways[b]
			none := api.ErrNone
			if there {
				none = api.OK
			}
			if ok, bad := x.f.Same(a, b); ok != there || bad != api.OK {
				t.Fatalf("%v: Same(%d, %d) = %v, %d, want %v", x.p.joints, a, b, ok, bad, there)
			}
			if l, bad := x.f.Path(a, b); !slices.Equal(l, path) || bad != none {
				t.Fatalf("%v: Path(%d, %d) = %v, %d, want %v, %d", x.p.joints, a, b, l, bad, path, none)
			}
		}
	}
}

// picture tells all that can be asked of a forest.
func picture(f *forest.Forest) string {
	s := fmt.Sprint(f.Len())
	for a := range f.Len() {
		n, _ := f.Least(a)
		l, _ := f.Group(a)
		s += fmt.Sprint("; ", n, l)
		for b := range f.Len() {
			ok, _ := f.Same(a, b)
			path, bad := f.Path(a, b)
			s += fmt.Sprint(" ", ok, path, bad)
		}
	}
	return s
}

// P9.1

func TestNewHasNoMembers(t *testing.T) {
	f := forest.New()
	if f == nil {
		t.Fatal("New() is nil")
	}
	if n := f.Len(); n != 0 {
		t.Errorf("Len() = %d", n)
	}
	refused(t, f, 0, 0)
}

// TestAddUpToTheLimit: from none to MaxIds members, and behind that none further, however often it is asked for.
func TestAddUpToTheLimit(t *testing.T) {
	f := forest.New()
	for i := range api.MaxIds {
		if n := f.Len(); n != i {
			t.Fatalf("Len() = %d, want %d", n, i)
		}
		if n, bad := f.Add(); n != i || bad != api.OK {
			t.Fatalf("Add() = %d, %d, want %d", n, bad, i)
		}
	}
	for range 3 {
		if n, bad := f.Add(); n != 0 || bad != api.ErrLarge {
			t.Errorf("Add() to MaxIds members = %d, %d", n, bad)
		}
		if n := f.Len(); n != api.MaxIds {
			t.Errorf("Len() = %d", n)
		}
	}
	refused(t, f, api.MaxIds, 0)
	const last = api.MaxIds - 1
	joins(t, f, last, 0, "all", true)
	joins(t, f, 0, last, "again", false)
	if n, bad := f.Least(last); n != 0 || bad != api.OK {
		t.Errorf("Least(%d) = %d, %d", last, n, bad)
	}
	if l := group(t, f, 0); !slices.Equal(l, []int{0, last}) {
		t.Errorf("Group(0) = %v", l)
	}
	if l := way(t, f, 0, last); !slices.Equal(l, []api.Edge{{From: 0, To: last, Why: "all", Back: true}}) {
		t.Errorf("Path(0, %d) = %v", last, l)
	}
	if n, bad := f.Add(); n != 0 || bad != api.ErrLarge {
		t.Errorf("Add() behind a Join, which leaves all members = %d, %d", n, bad)
	}
}

// TestAddedIsAlone: a further member has nothing to do with the others, whatever was joined ahead of it.
func TestAddedIsAlone(t *testing.T) {
	x := pair{forest.New(), &plain{}}
	r := rand.New(rand.NewSource(91))
	for i := range 40 {
		if n, bad := x.f.Add(); n != i || bad != api.OK {
			t.Fatalf("Add() = %d, %d, want %d", n, bad, i)
		}
		x.p.many++
		if l := group(t, x.f, i); !slices.Equal(l, []int{i}) {
			t.Fatalf("Group(%d) of a new member = %v", i, l)
		}
		if l := way(t, x.f, i, i); len(l) != 0 {
			t.Fatalf("Path(%d, %d) of a new member = %v", i, i, l)
		}
		for b := range i {
			if ok, bad := x.f.Same(i, b); ok || bad != api.OK {
				t.Fatalf("Same(%d, %d) of a new member = %v, %d", i, b, ok, bad)
			}
		}
		x.agree(t)
		x.join(t, r.Intn(i+1), r.Intn(i+1), i)
		x.agree(t)
	}
}

// P9.2

// TestJoinOfAFew: all rows of four joints, of any member to any, of four members.
func TestJoinOfAFew(t *testing.T) {
	const many, long = 4, 4
	rows := 1
	for range long {
		rows *= many * many
	}
	for row := range rows {
		x := paired(t, many)
		kept := 0
		for i, rest := 0, row; i < long; i, rest = i+1, rest/(many*many) {
			if x.join(t, rest%many, rest/many%many, i) {
				kept++
			}
		}
		if kept >= many {
			t.Fatalf("%d joints of %d members were kept", kept, many)
		}
		if row%7 == 0 || row < 4096 {
			x.agree(t)
		}
	}
}

// TestJoinAnswers: true where two groups become one, false where they are one already, in both orders, and of a member with itself.
func TestJoinAnswers(t *testing.T) {
	f := grown(t, 5)
	for a := range 5 {
		joins(t, f, a, a, "itself", false)
	}
	joins(t, f, 3, 1, 0, true)
	joins(t, f, 3, 1, 1, false)
	joins(t, f, 1, 3, 2, false)
	joins(t, f, 2, 4, 3, true)
	joins(t, f, 4, 1, 4, true)
	for _, c := range [][2]int{{1, 1}, {1, 2}, {1, 3}, {1, 4}, {2, 3}, {2, 4}, {3, 4}} {
		joins(t, f, c[0], c[1], "again", false)
		joins(t, f, c[1], c[0], "again", false)
		joins(t, f, 0, 0, "again", false)
	}
	joins(t, f, 0, 2, 5, true)
	for a := range 5 {
		for b := range 5 {
			joins(t, f, a, b, nil, false)
		}
	}
	want := []api.Edge{{From: 0, To: 2, Why: 5}, {From: 2, To: 4, Why: 3}, {From: 4, To: 1, Why: 4}, {From: 1, To: 3, Why: 0, Back: true}}
	if l := way(t, f, 0, 3); !slices.Equal(l, want) {
		t.Errorf("Path(0, 3) = %v, want %v", l, want)
	}
}

// shapes are ways to join so many members into one group: which member each of them but the first is joined to, of those ahead of it.
var shapes = map[string]func(r *rand.Rand, m int) int{
	"chain": func(r *rand.Rand, m int) int { return m - 1 },
	"star":  func(r *rand.Rand, m int) int { return 0 },
	"tree":  func(r *rand.Rand, m int) int { return r.Intn(m) },
	"pairs": func(r *rand.Rand, m int) int { return (m - 1) / 2 },
	"broom": func(r *rand.Rand, m int) int { return min(m-1, 5) },
}

// shaped is the joints of a shape on members that are numbered from first on: in which order they come, and in which direction each of them goes, is left to chance.
func shaped(r *rand.Rand, shape func(r *rand.Rand, m int) int, first, many int) []joint {
	var l []joint
	number := r.Perm(many)
	for m := 1; m < many; m++ {
		a, b := first+number[m], first+number[shape(r, m)]
		if r.Intn(2) == 0 {
			a, b = b, a
		}
		l = append(l, joint{a, b, len(l) + 1000*first})
	}
	r.Shuffle(len(l), func(i, k int) { l[i], l[k] = l[k], l[i] })
	return l
}

// TestJoinOfGroupsOfEverySize: two groups of any shape, joined at any of their members, in both orders.
func TestJoinOfGroupsOfEverySize(t *testing.T) {
	r := rand.New(rand.NewSource(92))
	for p := 1; p <= 9; p++ {
		for q := 1; q <= 9; q++ {
			for _, name := range slices.Sorted(maps.Keys(shapes)) {
				for _, turn := range []bool{false, true} {
					x := paired(t, p+q+1)
					for _, j := range append(shaped(r, shapes[name], 0, p), shaped(r, shapes[name], p, q)...) {
						x.join(t, j.a, j.b, j.why)
					}
					x.agree(t)
					a, b := r.Intn(p), p+r.Intn(q)
					if turn {
						a, b = b, a
					}
					if !x.join(t, a, b, "between") {
						t.Fatalf("a joint of two groups was not kept: %v", x.p.joints)
					}
					x.agree(t)
					x.join(t, p+r.Intn(q), r.Intn(p), "again")
					x.agree(t)
				}
			}
		}
	}
}

// Reasons of types of their own.
type (
	word   string
	number int
	record struct {
		A int
		B []int
	}
	loop struct{ self *loop }
)

func (w word) Error() string { return string(w) }

// TestReasonsComeBack: each as the value that it was, of its own type, in both directions.
func TestReasonsComeBack(t *testing.T) {
	var none *record
	var fault error = word("fault")
	round := &loop{}
	round.self = round
	wrapped := fmt.Errorf("around: %w", fault)
	reasons := []any{
		nil, none, []int(nil), map[string]int(nil), error(nil), (*int)(nil), struct{}{},
		0, 7, int64(7), int32(7), uint8(7), uintptr(7), number(7), 7.0, float32(7), 7i, 'x', true, false,
		"", "x", word("x"), math.MinInt64, math.MaxInt64, uint64(math.MaxUint64), math.Inf(-1),
		fault, wrapped, [2]int{1, 2}, [1][]int{{1}}, []int{1, 2}, []any{nil, []int{1}}, map[string]int{"x": 1}, record{1, []int{2}}, &record{3, []int{4}}, round,
		api.Lit{N: 5}, api.Bin{Op: api.OpAdd, A: api.Lit{N: 5}, B: api.Var{Name: "a"}}, api.Edge{From: 1, Why: []int{3}}, api.ErrArg,
		api.RuleStep{Rule: 3, Holes: []int{1, 2}}, forest.New(),
	}
	f := grown(t, len(reasons)+1)
	for i, why := range reasons {
		if i%2 == 0 {
			joins(t, f, i, i+1, why, true)
		} else {
			joins(t, f, i+1, i, why, true)
		}
		joins(t, f, i, i+1, "another", false)
	}
	all := len(reasons)
	there, back := way(t, f, 0, all), way(t, f, all, 0)
	if len(there) != all || len(back) != all {
		t.Fatalf("ways of %d and %d joints, want %d", len(there), len(back), all)
	}
	for i, why := range reasons {
		for _, e := range []api.Edge{there[i], back[all-1-i]} {
			if reflect.TypeOf(e.Why) != reflect.TypeOf(why) || !reflect.DeepEqual(e.Why, why) {
				t.Errorf("the reason %#v came back as %#v", why, e.Why)
			}
		}
		if there[i].Back != (i%2 == 1) || back[all-1-i].Back != (i%2 == 0) {
			t.Errorf("the joint of %d and %d: Back %v and %v", i, i+1, there[i].Back, back[all-1-i].Back)
		}
	}
	if !errors.Is(there[slices.Index(typesOf(reasons), reflect.TypeOf(wrapped))].Why.(error), fault) {
		t.Error("a reason that wraps another does so no longer")
	}
}

func typesOf(values []any) []reflect.Type {
	var l []reflect.Type
	for _, v := range values {
		l = append(l, reflect.TypeOf(v))
	}
	return l
}

// TestReasonsThatCannotBeCompared: functions, maps and lists, and what is not equal to itself.
func TestReasonsThatCannotBeCompared(t *testing.T) {
	f := grown(t, 6)
	called := 0
	joins(t, f, 0, 1, func(n int) int { called += n; return called }, true)
	joins(t, f, 2, 1, map[string][]int{"x": {1}}, true)
	joins(t, f, 2, 3, []func(){nil}, true)
	joins(t, f, 4, 3, math.NaN(), true)
	joins(t, f, 4, 5, make(chan int, 3), true)
	joins(t, f, 0, 5, func() {}, false)
	l := way(t, f, 0, 5)
	if call, ok := l[0].Why.(func(int) int); !ok || call(3) != 3 || called != 3 {
		t.Errorf("a function came back as %v", l[0].Why)
	}
	if m, ok := l[1].Why.(map[string][]int); !ok || len(m) != 1 || !slices.Equal(m["x"], []int{1}) {
		t.Errorf("a map came back as %v", l[1].Why)
	}
	if m, ok := l[2].Why.([]func()); !ok || len(m) != 1 || m[0] != nil {
		t.Errorf("a list of functions came back as %v", l[2].Why)
	}
	if n, ok := l[3].Why.(float64); !ok || n == n {
		t.Errorf("a number that is not equal to itself came back as %v", l[3].Why)
	}
	if c, ok := l[4].Why.(chan int); !ok || cap(c) != 3 {
		t.Errorf("a channel came back as %v", l[4].Why)
	}
}

// TestReasonsAreKeptAsTheyAre: what a reason holds is no copy (R4 excepts them), and is never written to.
func TestReasonsAreKeptAsTheyAre(t *testing.T) {
	list := append(make([]int, 0, 5), 1, 2, 3)
	list[:5][4] = 77
	one := &record{1, list}
	table := map[string]int{"x": 1}
	f := grown(t, 5)
	joins(t, f, 0, 1, list, true)
	joins(t, f, 1, 2, one, true)
	joins(t, f, 3, 2, table, true)
	joins(t, f, 4, 3, &list, true)
	list[0], one.A, table["y"] = 9, 8, 7
	for range 2 {
		l := way(t, f, 0, 4)
		got := l[0].Why.([]int)
		if &got[0] != &list[0] || len(got) != 3 || cap(got) != 5 || !slices.Equal(got[:5], []int{9, 2, 3, 0, 77}) {
			t.Errorf("a list came back as %v, %d", got, cap(got))
		}
		if got := l[1].Why.(*record); got != one || got.A != 8 {
			t.Errorf("a pointer came back as %v", got)
		}
		if got := l[2].Why.(map[string]int); len(got) != 2 || got["y"] != 7 {
			t.Errorf("a map came back as %v", got)
		}
		if got := l[3].Why.(*[]int); got != &list {
			t.Errorf("a pointer to a list came back as %v", got)
		}
		l[0].Why, l[1].Why = nil, "other"
	}
}

// TestRefusedIsNeverInAPath: a joint that was answered false, or with ErrArg, leaves its reason nowhere.
func TestRefusedIsNeverInAPath(t *testing.T) {
	r := rand.New(rand.NewSource(93))
	for range 30 {
		const many = 12
		x := paired(t, many)
		for i := range 60 {
			a, b := r.Intn(many), r.Intn(many)
			x.join(t, a, b, i)
			for _, n := range []int{-1, many, math.MinInt, math.MaxInt} {
				if ok, bad := x.f.Join(a, n, "bad"); ok || bad != api.ErrArg {
					t.Fatalf("Join(%d, %d) = %v, %d", a, n, ok, bad)
				}
				if ok, bad := x.f.Join(n, b, "bad"); ok || bad != api.ErrArg {
					t.Fatalf("Join(%d, %d) = %v, %d", n, b, ok, bad)
				}
			}
			if ok, bad := x.f.Join(a, b, "late"); ok || bad != api.OK {
				t.Fatalf("Join(%d, %d) again = %v, %d", a, b, ok, bad)
			}
		}
		x.agree(t)
		for a := range many {
			for b := range many {
				l, _ := x.f.Path(a, b)
				for _, e := range l {
					if e.Why == "bad" || e.Why == "late" {
						t.Fatalf("Path(%d, %d) = %v", a, b, l)
					}
				}
			}
		}
	}
}

// P9.3

func TestMembersAlone(t *testing.T) {
	for many := 1; many <= 12; many++ {
		x := paired(t, many)
		x.agree(t)
		for a := range many {
			joins(t, x.f, a, a, a, false)
		}
		x.agree(t)
	}
}

// orders calls with every order of the numbers below many.
func orders(many int, call func(order []int)) {
	l := make([]int, many)
	for i := range l {
		l[i] = i
	}
	var place func(at int)
	place = func(at int) {
		if at == many {
			call(l)
			return
		}
		for i := at; i < many; i++ {
			l[at], l[i] = l[i], l[at]
			place(at + 1)
			l[at], l[i] = l[i], l[at]
		}
	}
	place(0)
}

// TestGroupsInEveryOrder: the joints of a few trees come in every order, on members in every order; what the groups are hangs on no order.
func TestGroupsInEveryOrder(t *testing.T) {
	for _, tree := range [][][2]int{
		{{0, 1}, {1, 2}, {2, 3}, {3, 4}, {4, 5}},
		{{0, 1}, {0, 2}, {0, 3}, {0, 4}, {0, 5}},
		{{1, 0}, {2, 0}, {1, 3}, {4, 1}, {5, 2}},
		{{0, 1}, {3, 2}, {4, 5}, {1, 0}, {2, 3}},
		{{0, 1}, {2, 1}, {3, 4}, {4, 5}, {5, 3}},
	} {
		orders(len(tree), func(order []int) {
			x := paired(t, 6)
			for _, i := range order {
				x.join(t, tree[i][0], tree[i][1], i)
			}
			x.agree(t)
		})
		orders(6, func(order []int) {
			x := paired(t, 6)
			for i, j := range tree {
				x.join(t, order[j[0]], order[j[1]], i)
			}
			x.agree(t)
		})
	}
}

// TestRandomForests: joints by chance, everything asked for behind each of them.
func TestRandomForests(t *testing.T) {
	r := rand.New(rand.NewSource(94))
	for range 60 {
		many := 1 + r.Intn(16)
		x := paired(t, many)
		for i := range 2 * many {
			x.join(t, r.Intn(many), r.Intn(many), i)
			x.agree(t)
		}
	}
	x := paired(t, 60)
	for i := range 150 {
		x.join(t, r.Intn(60), r.Intn(60), i)
	}
	x.agree(t)
}

// TestLeastIsTheFirstOfTheGroup: where the least member comes last, first and in between, from the smaller group and from the greater.
func TestLeastIsTheFirstOfTheGroup(t *testing.T) {
	f := grown(t, 9)
	for _, c := range []struct{ a, b, asked, least int }{
		{8, 7, 8, 7}, {8, 6, 7, 6}, {5, 7, 8, 5}, {3, 4, 4, 3}, {4, 8, 6, 3}, {2, 1, 2, 1}, {1, 0, 2, 0}, {7, 2, 5, 0},
	} {
		joins(t, f, c.a, c.b, nil, true)
		if n, bad := f.Least(c.asked); n != c.least || bad != api.OK {
			t.Errorf("Least(%d) = %d, %d, want %d", c.asked, n, bad, c.least)
		}
	}
	if l := group(t, f, 4); !slices.Equal(l, []int{0, 1, 2, 3, 4, 5, 6, 7, 8}) {
		t.Errorf("Group(4) = %v", l)
	}
}

// P9.4

// goesFrom holds a way against what the chapter says of one, given the joints that were made, by their reasons' numbers.
func goesFrom(t *testing.T, a, b int, l []api.Edge, made map[int]joint) {
	t.Helper()
	at := a
	gone := map[int]bool{}
	for i, e := range l {
		if e.From != at {
			t.Fatalf("the joint %d of the way from %d to %d begins at %d, not at %d", i, a, b, e.From, at)
		}
		at = e.To
		why, ok := e.Why.(int)
		j, is := made[why]
		if !ok || !is || gone[why] {
			t.Fatalf("the joint %d of the way from %d to %d is none, or comes twice: %v", i, a, b, e)
		}
		gone[why] = true
		if e.Back {
			j.a, j.b = j.b, j.a
		}
		if e.From != j.a || e.To != j.b {
			t.Fatalf("the joint %d of the way from %d to %d is %v, made as %v", i, a, b, e, made[why])
		}
	}
	if at != b {
		t.Fatalf("the way from %d to %d ends at %d", a, b, at)
	}
}

// turned is a way, gone from its end to its beginning.
func turned(l []api.Edge) []api.Edge {
	var out []api.Edge
	for _, e := range slices.Backward(l) {
		out = append(out, api.Edge{From: e.To, To: e.From, Why: e.Why, Back: !e.Back})
	}
	return out
}

// TestPathOfAllPairs: chains, stars, trees at random and others, two of one shape beside each other in a forest.
func TestPathOfAllPairs(t *testing.T) {
	r := rand.New(rand.NewSource(95))
	for _, name := range slices.Sorted(maps.Keys(shapes)) {
		for _, many := range []int{1, 2, 3, 4, 5, 8, 13, 30} {
			f := grown(t, 2*many)
			made := map[int]joint{}
			for _, j := range append(shaped(r, shapes[name], 0, many), shaped(r, shapes[name], many, many)...) {
				joins(t, f, j.a, j.b, j.why, true)
				made[j.why.(int)] = j
			}
			for a := range 2 * many {
				for b := range 2 * many {
					l, bad := f.Path(a, b)
					if (a < many) != (b < many) {
						if len(l) != 0 || bad != api.ErrNone {
							t.Fatalf("%s: Path(%d, %d) of two groups = %v, %d", name, a, b, l, bad)
						}
						continue
					}
					if bad != api.OK || (a == b) != (len(l) == 0) {
						t.Fatalf("%s: Path(%d, %d) = %v, %d", name, a, b, l, bad)
					}
					goesFrom(t, a, b, l, made)
					if back := way(t, f, b, a); !slices.Equal(back, turned(l)) {
						t.Fatalf("%s: Path(%d, %d) = %v, back %v", name, a, b, l, back)
					}
				}
			}
		}
	}
}

// TestPathSaysWhichWay: of one joint, and of three that were made in every mix of directions.
func TestPathSaysWhichWay(t *testing.T) {
	for mask := range 8 {
		f := grown(t, 4)
		var want []api.Edge
		for i := range 3 {
			back := mask>>i&1 == 1
			if back {
				joins(t, f, i+1, i, i, true)
			} else {
				joins(t, f, i, i+1, i, true)
			}
			want = append(want, api.Edge{From: i, To: i + 1, Why: i, Back: back})
		}
		for a := range 4 {
			for b := a; b < 4; b++ {
				if l := way(t, f, a, b); !slices.Equal(l, want[a:b]) {
					t.Errorf("Path(%d, %d) = %v, want %v", a, b, l, want[a:b])
				}
				if l := way(t, f, b, a); !slices.Equal(l, turned(want[a:b])) {
					t.Errorf("Path(%d, %d) = %v, want %v", b, a, l, turned(want[a:b]))
				}
			}
		}
	}
}

// TestPathStays: further joints leave the way between two members as it is.
func TestPathStays(t *testing.T) {
	r := rand.New(rand.NewSource(96))
	const many = 40
	f := grown(t, many)
	type ends struct{ a, b int }
	first := map[ends][]api.Edge{}
	for i := range 200 {
		if _, bad := f.Join(r.Intn(many), r.Intn(many), i); bad != api.OK {
			t.Fatal(bad)
		}
		for range 20 {
			e := ends{r.Intn(many), r.Intn(many)}
			l, bad := f.Path(e.a, e.b)
			if bad != api.OK {
				continue
			}
			if was, is := first[e]; is && !slices.Equal(l, was) {
				t.Fatalf("Path(%d, %d) = %v, was %v", e.a, e.b, l, was)
			}
			first[e] = l
		}
	}
}

// TestPathsOfMany: great forests, joined from the front, from behind, in the middle first and group by group.
func TestPathsOfMany(t *testing.T) {
	const many = 1 << 17
	front := make([]int, many-1)
	for i := range front {
		front[i] = i
	}
	behind := slices.Clone(front)
	slices.Reverse(behind)
	mixed := rand.New(rand.NewSource(97)).Perm(many - 1)
	var halves []int
	for step := 1; step < many; step *= 2 {
		for i := step - 1; i < many-1; i += 2 * step {
			halves = append(halves, i)
		}
	}
	for _, order := range [][]int{front, behind, mixed, halves} {
		f := grown(t, many)
		made := map[int]joint{}
		for _, i := range order {
			j := joint{i, i + 1, i}
			if i%3 == 0 {
				j.a, j.b = j.b, j.a
			}
			joins(t, f, j.a, j.b, j.why, true)
			made[i] = j
		}
		for _, c := range [][2]int{{0, many - 1}, {many - 1, 0}, {many / 3, many / 2}, {many - 2, 1}, {7, 7}} {
			l := way(t, f, c[0], c[1])
			goesFrom(t, c[0], c[1], l, made)
			if want := max(c[0]-c[1], c[1]-c[0]); len(l) != want {
				t.Fatalf("Path(%d, %d) has %d joints", c[0], c[1], len(l))
			}
		}
		l := group(t, f, many/2)
		for i, m := range l {
			if m != i {
				t.Fatalf("Group(%d) has %d in the place %d", many/2, m, i)
			}
		}
		if n, bad := f.Least(many - 1); len(l) != many || n != 0 || bad != api.OK {
			t.Fatalf("%d members, the least %d, %d", len(l), n, bad)
		}
	}
}

// Numbers that are no member's

// refused holds that all calls on a number that is no member's answer ErrArg, in each place, beside a number a that may be one.
func refused(t *testing.T, f *forest.Forest, n, a int) {
	t.Helper()
	for _, c := range [][2]int{{n, a}, {a, n}, {n, n}} {
		if ok, bad := f.Join(c[0], c[1], "bad"); ok || bad != api.ErrArg {
			t.Errorf("Join(%d, %d) = %v, %d", c[0], c[1], ok, bad)
		}
		if ok, bad := f.Same(c[0], c[1]); ok || bad != api.ErrArg {
			t.Errorf("Same(%d, %d) = %v, %d", c[0], c[1], ok, bad)
		}
		if l, bad := f.Path(c[0], c[1]); len(l) != 0 || bad != api.ErrArg {
			t.Errorf("Path(%d, %d) = %v, %d", c[0], c[1], l, bad)
		}
	}
	if m, bad := f.Least(n); m != 0 || bad != api.ErrArg {
		t.Errorf("Least(%d) = %d, %d", n, m, bad)
	}
	if l, bad := f.Group(n); len(l) != 0 || bad != api.ErrArg {
		t.Errorf("Group(%d) = %v, %d", n, l, bad)
	}
}

func TestNoMembers(t *testing.T) {
	r := rand.New(rand.NewSource(98))
	for many := range 8 {
		x := paired(t, many)
		for range 3 {
			was := picture(x.f)
			for _, n := range []int{-1, many, -2, many + 1, -many, math.MinInt, math.MaxInt, math.MinInt + 1, math.MaxInt - 1, math.MinInt32, math.MaxInt32, 1 << 32, -1 << 32, api.MaxIds, api.MaxIds - 1} {
				if n == 0 && many > 0 {
					continue
				}
				for a := range max(many, 1) {
					refused(t, x.f, n, a)
				}
				refused(t, x.f, n, -n)
				refused(t, x.f, n, -1)
				refused(t, x.f, n, many)
			}
			if is := picture(x.f); is != was {
				t.Fatalf("%s was %s", is, was)
			}
			if many > 0 {
				x.join(t, r.Intn(many), r.Intn(many), r.Int())
			}
			x.agree(t)
		}
		if n, bad := x.f.Add(); n != many || bad != api.OK {
			t.Errorf("Add() behind what was refused = %d, %d, want %d", n, bad, many)
		}
	}
}

// P9.5

func TestNil(t *testing.T) {
	var f *forest.Forest
	for range 2 {
		if n, bad := f.Add(); n != 0 || bad != api.ErrArg {
			t.Errorf("Add() = %d, %d", n, bad)
		}
		if n := f.Len(); n != 0 {
			t.Errorf("Len() = %d", n)
		}
		for _, n := range []int{0, 1, -1, math.MinInt, math.MaxInt, api.MaxIds} {
			refused(t, f, n, 0)
			refused(t, f, n, n)
			refused(t, f, n, 1)
		}
	}
}

// The rules that hold for all calls

// TestTwoForests: what one is told the other knows nothing of, also while both are asked at one time.
func TestTwoForests(t *testing.T) {
	r := rand.New(rand.NewSource(99))
	x, y := paired(t, 10), paired(t, 7)
	for i := range 30 {
		x.join(t, r.Intn(10), r.Intn(10), i)
		y.agree(t)
		y.join(t, r.Intn(7), r.Intn(7), -i)
		x.agree(t)
	}
	if n, bad := x.f.Add(); n != 10 || bad != api.OK || y.f.Len() != 7 {
		t.Errorf("Add() = %d, %d; the other one has %d members", n, bad, y.f.Len())
	}
	done := make(chan string)
	for range 8 {
		go func() {
			f := forest.New()
			for range 30 {
				f.Add()
			}
			for i := range 29 {
				f.Join((i+1)*7%30, i*7%30, i)
			}
			done <- picture(f)
		}()
	}
	first := <-done
	for range 7 {
		if other := <-done; other != first {
			t.Errorf("of the same joints: %s and %s", first, other)
		}
	}
}

// TestAnswersHaveTheirOwnMemory: what is written into a list that was answered, spare room too, is in no later answer and in no earlier one.
func TestAnswersHaveTheirOwnMemory(t *testing.T) {
	r := rand.New(rand.NewSource(100))
	x := paired(t, 14)
	for i := range 40 {
		x.join(t, r.Intn(14), r.Intn(14), i)
		was := picture(x.f)
		for a := range 14 {
			kept := group(t, x.f, a)
			all := slices.Clone(kept)
			l := group(t, x.f, a)
			for k := range l[:cap(l)] {
				l[:cap(l)][k] = -77
			}
			if !slices.Equal(kept, all) {
				t.Fatalf("two answers of Group(%d) share memory", a)
			}
			for b := range 14 {
				kept, _ := x.f.Path(a, b)
				all := slices.Clone(kept)
				l, _ := x.f.Path(a, b)
				for k := range l[:cap(l)] {
					l[:cap(l)][k] = api.Edge{From: -1, To: -2, Why: "junk", Back: true}
				}
				if !slices.Equal(kept, all) {
					t.Fatalf("two answers of Path(%d, %d) share memory", a, b)
				}
			}
		}
		if is := picture(x.f); is != was {
			t.Fatalf("behind writing into answers: %s, was %s", is, was)
		}
		x.agree(t)
	}
}

// TestAnswersStay: a list that was answered is not changed by what is told to the forest later.
func TestAnswersStay(t *testing.T) {
	r := rand.New(rand.NewSource(101))
	f := grown(t, 12)
	var lists, were [][]int
	var ways, waysWere [][]api.Edge
	for i := range 60 {
		if i%4 == 0 {
			f.Add()
		}
		f.Join(r.Intn(12), r.Intn(12), i)
		a, b := r.Intn(12), r.Intn(12)
		l := group(t, f, a)
		lists, were = append(lists, l), append(were, slices.Clone(l))
		if w, bad := f.Path(a, b); bad == api.OK {
			ways, waysWere = append(ways, w), append(waysWere, slices.Clone(w))
		}
	}
	for i := range lists {
		if !slices.Equal(lists[i], were[i]) {
			t.Errorf("a group was %v and became %v", were[i], lists[i])
		}
	}
	for i := range ways {
		if !slices.Equal(ways[i], waysWere[i]) {
			t.Errorf("a way was %v and became %v", waysWere[i], ways[i])
		}
	}
}

// TestAskingChangesNothing: the same is answered again, however often and in whatever order it is asked.
func TestAskingChangesNothing(t *testing.T) {
	r := rand.New(rand.NewSource(102))
	x := paired(t, 20)
	for i := range 15 {
		x.join(t, r.Intn(20), r.Intn(20), i)
	}
	was := picture(x.f)
	for range 500 {
		a, b := r.Intn(20), r.Intn(20)
		x.f.Same(a, b)
		x.f.Path(a, b)
		x.f.Group(b)
		x.f.Least(a)
		x.f.Len()
	}
	if is := picture(x.f); is != was {
		t.Fatalf("%s was %s", is, was)
	}
	x.agree(t)
}

// The chapter's examples.

func TestExamples(t *testing.T) {
	f := grown(t, 3)
	joins(t, f, 0, 1, "x", true)
	joins(t, f, 2, 1, 7, true)
	joins(t, f, 0, 2, nil, false)
	if l := way(t, f, 0, 2); !slices.Equal(l, []api.Edge{{From: 0, To: 1, Why: "x"}, {From: 1, To: 2, Why: 7, Back: true}}) {
		t.Errorf("Path(0, 2) = %v", l)
	}
	if l := way(t, f, 2, 0); !slices.Equal(l, []api.Edge{{From: 2, To: 1, Why: 7}, {From: 1, To: 0, Why: "x", Back: true}}) {
		t.Errorf("Path(2, 0) = %v", l)
	}
	if l := group(t, f, 1); !slices.Equal(l, []int{0, 1, 2}) {
		t.Errorf("Group(1) = %v", l)
	}
	if n, bad := f.Least(2); n != 0 || bad != api.OK {
		t.Errorf("Least(2) = %d, %d", n, bad)
	}
	f = grown(t, 2)
	if ok, bad := f.Same(0, 1); ok || bad != api.OK {
		t.Errorf("Same(0, 1) = %v, %d", ok, bad)
	}
	if l, bad := f.Path(0, 1); len(l) != 0 || bad != api.ErrNone {
		t.Errorf("Path(0, 1) = %v, %d", l, bad)
	}
	if l, bad := f.Path(1, 1); len(l) != 0 || bad != api.OK {
		t.Errorf("Path(1, 1) = %v, %d", l, bad)
	}
	if ok, bad := f.Same(0, 2); ok || bad != api.ErrArg {
		t.Errorf("Same(0, 2) = %v, %d", ok, bad)
	}
}
