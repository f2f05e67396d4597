package machine_test

import (
	"fmt"
	"math"
	"math/rand"
	"slices"
	"testing"

	"sorrel/api"
	"sorrel/machine"
	"sorrel/picture"
)

// finds asks Run, where it has to answer lists.
func finds(t *testing.T, prog []api.Cmd, holes int, p api.Picture, class int, want string) {
	t.Helper()
	l, bad := machine.Run(prog, holes, p, class)
	if bad != api.OK || written(l) != want {
		t.Errorf("Run(%v, %d, %s, %d): %s, %d, want %s", prog, holes, text(p), class, written(l[:min(len(l), 50)]), bad, want)
	}
}

// written is lists, written out.
func written(l [][]int) string {
	if len(l) == 0 {
		return "[]"
	}
	return fmt.Sprint(l)
}

// runFails asks Run, where it has to answer an error.
func runFails(t *testing.T, what string, prog []api.Cmd, holes int, p api.Picture, class int, want api.Errno) {
	t.Helper()
	if l, bad := machine.Run(prog, holes, p, class); len(l) != 0 || bad != want {
		t.Errorf("Run, %s: %d lists, %d, want %d", what, len(l), bad, want)
	}
}

// must is what a sound program finds.
func must(t *testing.T, prog []api.Cmd, holes int, p api.Picture, class int) [][]int {
	t.Helper()
	l, bad := machine.Run(prog, holes, p, class)
	if bad != api.OK {
		t.Fatalf("Run(%v, %d, %s, %d): %d", prog, holes, text(p), class, bad)
	}
	return l
}

// at is the class of a picture that represents an expression.
func at(t *testing.T, p api.Picture, s string) int {
	t.Helper()
	c, bad := picture.Class(p, read(t, s))
	if bad != api.OK {
		t.Fatalf("Class(%s, %s): %d", text(p), s, bad)
	}
	return c
}

// P15.2

func TestRunWithoutCommands(t *testing.T) {
	p := base()
	for c := range p.Classes {
		finds(t, nil, 0, p, c, "[[]]")
		finds(t, []api.Cmd{}, 0, p, c, "[[]]")
	}
}

func TestRunTakesItsClass(t *testing.T) {
	p := base()
	for c := range p.Classes {
		finds(t, takes(1), 1, p, c, fmt.Sprint([][]int{{c}}))
		finds(t, takes(6), 6, p, c, fmt.Sprint([][]int{{c, c, c, c, c, c}}))
		finds(t, []api.Cmd{same(0, 0), take(0, 1), take(0, 0)}, 2, p, c, fmt.Sprint([][]int{{c, c}}))
	}
}

// TestRunLeaves: Op, N and Name all have to be the node's.
func TestRunLeaves(t *testing.T) {
	p := pic(class(lit(-1)), class(lit(0), lit(4), vari("a")), class(vari("b"), vari("é")), sized(2, do(api.OpNeg, 2), do(api.OpNot, 1)))
	for _, c := range []struct {
		cmd  api.Cmd
		home int
	}{
		{lookLit(0, -1, 1), 0}, {lookLit(0, 0, 1), 1}, {lookLit(0, 4, 1), 1}, {lookLit(0, 1, 1), none}, {lookLit(0, math.MinInt64, 1), none},
		{lookVar(0, "a", 1), 1}, {lookVar(0, "b", 1), 2}, {lookVar(0, "é", 1), 2}, {lookVar(0, "e", 1), none},
		{look(0, api.OpNeg, 1), 3}, {look(0, api.OpNot, 1), 3}, {look(0, api.OpAdd, 1), none}, {look(0, api.OpIf, 1), none},
	} {
		for class := range p.Classes {
			want := "[]"
			if class == c.home {
				want = "[[]]"
			}
			finds(t, []api.Cmd{c.cmd}, 0, p, class, want)
		}
	}
}

const none = -1

// TestRunEnds: at a CClass for which there is no node, at a CSame of two classes; ahead of a CTake and behind it.
func TestRunEnds(t *testing.T) {
	p := told(t, "x + 0", "x + x", "-(x + x)")
	sum, twice, neg := at(t, p, "x + 0"), at(t, p, "x + x"), at(t, p, "-(x + x)")
	x, zero := at(t, p, "x"), at(t, p, "0")
	add := look(0, api.OpAdd, 1)
	finds(t, []api.Cmd{add, take(1, 0)}, 1, p, neg, "[]")
	finds(t, []api.Cmd{take(0, 0), add}, 1, p, neg, "[]")
	finds(t, []api.Cmd{add, look(1, api.OpAdd, 3), take(1, 0)}, 1, p, sum, "[]")
	finds(t, []api.Cmd{add, take(1, 0), look(1, api.OpAdd, 3)}, 1, p, sum, "[]")
	finds(t, []api.Cmd{add, take(1, 0), same(1, 2)}, 1, p, sum, "[]")
	finds(t, []api.Cmd{add, same(1, 2), take(1, 0)}, 1, p, sum, "[]")
	finds(t, []api.Cmd{add, same(2, 1), take(2, 0)}, 1, p, twice, fmt.Sprint([][]int{{x}}))
	finds(t, []api.Cmd{add, same(0, 1)}, 0, p, twice, "[]")
	finds(t, []api.Cmd{add, same(0, 0), same(1, 1), same(2, 2)}, 0, p, sum, "[[]]")
	finds(t, []api.Cmd{add, take(2, 0), take(1, 1)}, 2, p, sum, fmt.Sprint([][]int{{zero, x}}))
	finds(t, []api.Cmd{look(0, api.OpNeg, 1), look(1, api.OpAdd, 2), same(2, 3), take(1, 0), take(3, 1)}, 2, p, neg, fmt.Sprint([][]int{{twice, x}}))
	finds(t, []api.Cmd{look(0, api.OpNeg, 1), look(1, api.OpAdd, 2), lookLit(3, 0, 4)}, 0, p, neg, "[]")
	finds(t, []api.Cmd{look(0, api.OpNeg, 1), look(1, api.OpAdd, 2), lookVar(3, "x", 4)}, 0, p, neg, "[[]]")
	// The same hole register by way of what it is the same as.
	finds(t, []api.Cmd{add, look(0, api.OpAdd, 3), same(2, 3), take(4, 0)}, 1, p, sum, "[]")
	finds(t, []api.Cmd{add, look(0, api.OpAdd, 3), same(2, 3), take(4, 0)}, 1, p, twice, fmt.Sprint([][]int{{x}}))
}

// rich is a class of all sums of so many variables, behind those.
func rich(many int) api.Picture {
	var p api.Picture
	var sums []api.Node
	for a := range many {
		p.Classes = append(p.Classes, class(vari(fmt.Sprintf("x%c%c", 'a'+a/26, 'a'+a%26))))
		for b := range many {
			sums = append(sums, do(api.OpAdd, a, b))
		}
	}
	p.Classes = append(p.Classes, sized(3, sums...))
	return p
}

// TestSeveralNodes: all that fit are taken, and no other; the lists come in order, by the first number that differs.
func TestSeveralNodes(t *testing.T) {
	p := rich(3)
	add := look(0, api.OpAdd, 1)
	finds(t, []api.Cmd{add, take(1, 0), take(2, 1)}, 2, p, 3, "[[0 0] [0 1] [0 2] [1 0] [1 1] [1 2] [2 0] [2 1] [2 2]]")
	finds(t, []api.Cmd{add, take(1, 1), take(2, 0)}, 2, p, 3, "[[0 0] [0 1] [0 2] [1 0] [1 1] [1 2] [2 0] [2 1] [2 2]]")
	finds(t, []api.Cmd{add, take(1, 0), take(2, 1), take(0, 2)}, 3, p, 3, "[[0 0 3] [0 1 3] [0 2 3] [1 0 3] [1 1 3] [1 2 3] [2 0 3] [2 1 3] [2 2 3]]")
	finds(t, []api.Cmd{add, lookVar(1, "xab", 3), take(2, 0)}, 1, p, 3, "[[0] [1] [2]]")
	finds(t, []api.Cmd{add, lookVar(2, "xac", 3), take(2, 0), take(1, 1)}, 2, p, 3, "[[2 0] [2 1] [2 2]]")
	finds(t, []api.Cmd{add, same(1, 2), take(2, 0)}, 1, p, 3, "[[0] [1] [2]]")
	finds(t, []api.Cmd{add, lookVar(2, "xad", 3), take(1, 0)}, 1, p, 3, "[]")
	// Each list once, however many runs find it.
	finds(t, []api.Cmd{add, take(1, 0)}, 1, p, 3, "[[0] [1] [2]]")
	finds(t, []api.Cmd{add, take(2, 0)}, 1, p, 3, "[[0] [1] [2]]")
	finds(t, []api.Cmd{add}, 0, p, 3, "[[]]")
	finds(t, []api.Cmd{add, take(0, 0)}, 1, p, 3, "[[3]]")
	finds(t, []api.Cmd{add, look(0, api.OpAdd, 3), take(1, 0)}, 1, p, 3, "[[0] [1] [2]]")
	finds(t, []api.Cmd{add, look(0, api.OpAdd, 3), take(1, 0), take(4, 1)}, 2, p, 3, "[[0 0] [0 1] [0 2] [1 0] [1 1] [1 2] [2 0] [2 1] [2 2]]")
	finds(t, []api.Cmd{add, look(0, api.OpAdd, 3), same(1, 4), take(1, 0), take(4, 1)}, 2, p, 3, "[[0 0] [1 1] [2 2]]")
	finds(t, []api.Cmd{add, look(0, api.OpAdd, 3), same(1, 4), same(2, 3), lookVar(4, "xaa", 5), take(2, 0), take(1, 1)}, 2, p, 3, "[[0 0] [1 0] [2 0]]")
	// Numbers of several digits stand by their numbers.
	many := rich(12)
	var want [][]int
	for c := range 12 {
		want = append(want, []int{c, 11})
	}
	finds(t, []api.Cmd{add, take(1, 0), take(2, 1), lookVar(2, "xal", 3)}, 2, many, 12, fmt.Sprint(want))
}

// TestCycles: classes that have themselves in their nodes.
func TestCycles(t *testing.T) {
	p := pic(class(lit(0)), class(vari("x"), do(api.OpAdd, 1, 0)), sized(3, do(api.OpAdd, 1, 1)))
	var left, right []api.Cmd
	for i := range 30 {
		left = append(left, look(max(2*i-1, 0), api.OpAdd, 2*i+1))
		right = append(right, look(2*i, api.OpAdd, 2*i+1))
	}
	finds(t, append(right, take(59, 0), take(60, 1)), 2, p, 1, "[]")
	finds(t, append(left, take(59, 0), take(60, 1)), 2, p, 1, "[[1 0]]")
	finds(t, append(left, same(0, 59), take(59, 0), take(60, 1)), 2, p, 1, "[[1 0]]")
	finds(t, append(left, same(0, 60), take(59, 0), take(60, 1)), 2, p, 1, "[]")
	finds(t, append(left, take(59, 0), take(2, 1), take(0, 2)), 3, p, 2, "[[1 1 2]]")
	finds(t, []api.Cmd{look(0, api.OpAdd, 1), same(0, 1)}, 0, p, 1, "[[]]")
	finds(t, []api.Cmd{look(0, api.OpAdd, 1), same(0, 1), same(1, 2)}, 0, p, 1, "[]")
}

// TestRunErrors: which one counts.
func TestRunErrors(t *testing.T) {
	good, bad := base(), base()
	bad.Classes[0].Size = 2
	last := len(good.Classes) - 1
	for _, class := range []int{0, last, -1, last + 1, math.MinInt, math.MaxInt} {
		runFails(t, "program and picture", []api.Cmd{take(1, 0)}, 1, bad, class, api.ErrForm)
		runFails(t, "program", []api.Cmd{take(1, 0)}, 1, good, class, api.ErrForm)
		runFails(t, "number of holes", takes(1), 2, good, class, api.ErrForm)
		runFails(t, "picture", takes(1), 1, bad, class, api.ErrForm)
		runFails(t, "picture, without commands", nil, 0, bad, class, api.ErrForm)
		if class < 0 || class > last {
			runFails(t, "class", takes(1), 1, good, class, api.ErrArg)
			runFails(t, "class, without commands", nil, 0, good, class, api.ErrArg)
			runFails(t, "class, without classes", nil, 0, api.Picture{}, class, api.ErrArg)
		}
	}
	runFails(t, "no classes", takes(1), 1, api.Picture{}, 0, api.ErrArg)
	// What would be too much is not looked for.
	much := rich(66)
	pair := []api.Cmd{look(0, api.OpAdd, 1), take(1, 0), take(2, 1)}
	runFails(t, "too many", pair, 2, much, 66, api.ErrLarge)
	runFails(t, "too many, no class", pair, 2, much, 67, api.ErrArg)
	much.Roots = []int{-1}
	runFails(t, "too many, no picture", pair, 2, much, 66, api.ErrForm)
	runFails(t, "too many, no program", pair, 3, rich(66), 66, api.ErrForm)
}

func TestRunOfWhatIsNoPicture(t *testing.T) {
	for what, spoil := range spoils() {
		p := base()
		spoil(&p)
		if picture.Check(p) != api.ErrForm {
			t.Fatalf("%s: the picture is sound", what)
		}
		for _, class := range []int{0, 3, -1, 99} {
			runFails(t, what, takes(1), 1, p, class, api.ErrForm)
			runFails(t, what, nil, 0, p, class, api.ErrForm)
			runFails(t, what, []api.Cmd{look(0, api.OpAdd, 1), take(1, 0)}, 1, p, class, api.ErrForm)
		}
	}
}

// TestMaxFound: as many different lists as there may be, and one more; runs do not count.
func TestMaxFound(t *testing.T) {
	if api.MaxFound != 4096 {
		t.Fatal("MaxFound")
	}
	pair := []api.Cmd{look(0, api.OpAdd, 1), take(1, 0), take(2, 1)}
	p := rich(64)
	var want [][]int
	for a := range 64 {
		for b := range 64 {
			want = append(want, []int{a, b})
		}
	}
	finds(t, pair, 2, p, 64, fmt.Sprint(want))
	// 4096 lists of six holes, by three looks at a class of 16 sums.
	four := rich(4)
	three := []api.Cmd{look(0, api.OpAdd, 1), look(0, api.OpAdd, 3), look(0, api.OpAdd, 5), take(1, 0), take(2, 1), take(3, 2), take(4, 3), take(5, 4), take(6, 5)}
	l := must(t, three, 6, four, 4)
	if len(l) != 4096 || !slices.IsSortedFunc(l, slices.Compare) || len(slices.CompactFunc(l, slices.Equal)) != 4096 {
		t.Errorf("%d lists", len(l))
	}
	// One more.
	more := rich(64)
	sums := &more.Classes[64].Nodes
	*sums = slices.Insert(*sums, 64, do(api.OpAdd, 0, 64))
	runFails(t, "4097 lists", pair, 2, more, 64, api.ErrLarge)
	finds(t, []api.Cmd{look(0, api.OpAdd, 1), lookVar(1, "xaa", 3), take(2, 0), take(1, 1)}, 2, more, 64, fmt.Sprint(besides(65)))
	if l := must(t, pair[:2], 1, more, 64); len(l) != 64 {
		t.Errorf("%d lists", len(l))
	}
	if l := must(t, []api.Cmd{pair[0], take(2, 0)}, 1, more, 64); len(l) != 65 {
		t.Errorf("%d lists", len(l))
	}
	// 4225 runs, few lists.
	five := rich(65)
	runFails(t, "4225 lists", pair, 2, five, 65, api.ErrLarge)
	if l := must(t, []api.Cmd{pair[0], same(1, 2), take(1, 0), take(2, 1)}, 2, five, 65); len(l) != 65 {
		t.Errorf("%d lists", len(l))
	}
	finds(t, []api.Cmd{pair[0], take(0, 0)}, 1, five, 65, "[[65]]")
	runFails(t, "five to the sixth", three, 6, rich(5), 5, api.ErrLarge)
}

// besides is lists of the numbers below one, each with 0 behind it.
func besides(many int) [][]int {
	var l [][]int
	for c := range many {
		l = append(l, []int{c, 0})
	}
	return l
}

// TestTooManyAndThenNone: what a later command forbids is not found, however much is found ahead of it.
func TestTooManyAndThenNone(t *testing.T) {
	p := rich(66)
	pair := []api.Cmd{look(0, api.OpAdd, 1), take(1, 0), take(2, 1)}
	finds(t, append(pair, lookVar(0, "a", 3)), 2, p, 66, "[]")
	finds(t, append(pair, look(2, api.OpNeg, 3)), 2, p, 66, "[]")
	finds(t, append(pair, same(1, 0)), 2, p, 66, "[]")
	finds(t, append(pair, lookVar(1, "xab", 3), lookVar(2, "xba", 3)), 2, p, 66, "[[1 26]]")
	six := append(pair, look(0, api.OpAdd, 3), take(3, 2), take(4, 3), look(0, api.OpAdd, 5), take(5, 4), take(6, 5))
	runFails(t, "six holes", six, 6, p, 66, api.ErrLarge)
	finds(t, append(six, look(0, api.OpMul, 7)), 6, p, 66, "[]")
	finds(t, append(six, lookVar(6, "a", 7)), 6, p, 66, "[]")
	var all []int
	prog := slices.Clone(six)
	for r := 1; r <= 6; r++ {
		prog = append(prog, lookVar(r, "xbn", 7))
		all = append(all, 39)
	}
	finds(t, prog, 6, p, 66, fmt.Sprint([][]int{all}))
}

// TestRunChance: random programs at random classes, each run followed by itself.
func TestRunChance(t *testing.T) {
	r := rand.New(rand.NewSource(1503))
	empty, asked, longest, lists := 0, 0, 0, 0
	for asked < 12000 {
		p := chance(t, r, 3, r.Intn(12))
		for range 5 {
			c := chanceClass(r, p)
			prog, holes := chanceProgram(r, p, c, 1+r.Intn(2+r.Intn(23)))
			want, all := runs(prog, holes, p, c)
			if !all || len(want) > api.MaxFound {
				continue
			}
			asked++
			longest = max(longest, len(want))
			lists += len(want)
			if len(want) == 0 {
				empty++
			}
			finds(t, prog, holes, p, c, written(want))
		}
	}
	if empty < 500 || empty > asked/2 || longest < 50 || lists < asked {
		t.Errorf("of %d programs %d find nothing; %d lists in all, %d of one", asked, empty, lists, longest)
	}
}
