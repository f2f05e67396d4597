package rounds_test

import (
	"fmt"
	"math"
	"math/rand"
	"slices"
	"testing"

	"sorrel/api"
	"sorrel/expr"
	"sorrel/graph"
	"sorrel/picture"
	"sorrel/rounds"
)

// P18.1

func TestFoldExample(t *testing.T) {
	q, _ := folds(t, told(t, "(1 + 2) * x"))
	is(t, q, "0: 1/1/[] size 1; 1: 1/2/[] size 1; 2: 1/3/[] 5/0/[0 1] size 1; 3: 2/0/x[] size 1; 4: 7/0/[2 3] size 3; [4]")
}

// TestFoldOfNothing: the picture without classes.
func TestFoldOfNothing(t *testing.T) {
	for _, p := range []api.Picture{{}, {Classes: []api.Class{}, Roots: []int{}}} {
		q, times := folds(t, p)
		if len(q.Classes)+len(q.Roots)+times != 0 {
			t.Error(drawing(q), times)
		}
	}
}

// TestNothingToFold: no class is Const, or each that is has its literal already.
func TestNothingToFold(t *testing.T) {
	for _, lines := range [][]string{
		{"x"}, {"-x + y / z"}, {"x = x + y", "y"}, {"0"}, {"-5", "9223372036854775807"}, {"x * 2", "0"},
		{"3 = 1 + 2", "1 + 2"}, {"-(-9223372036854775807 - 1) = -9223372036854775807 - 1", "-9223372036854775808 = -9223372036854775807 - 1"},
		{"1 / 0"}, {"1 % 0 + 2"}, {"1 / (x - x)"}, {"3 = 5", "3"}, {"x = 3", "x"}, {"x = -(3)", "-3 = -(3)"},
	} {
		p := told(t, lines...)
		q, times := folds(t, p)
		if times != 0 {
			t.Errorf("%q: %d times", lines, times)
		}
		is(t, q, drawing(p))
	}
}

// TestFoldOfOperators: every operator over numbers at all ends; where it traps there is no literal.
func TestFoldOfOperators(t *testing.T) {
	for op := api.OpNeg; op <= api.OpIf; op++ {
		for _, a := range edges {
			for _, b := range edges {
				parts := [][]api.Node{{lit(a)}, {lit(b)}, {lit(5)}}[:arities[op]]
				e, _ := expr.Make(op, 0, "", parts...)
				g := graph.New()
				g.Add(e)
				folds(t, drawn(t, g))
			}
		}
	}
	q, _ := folds(t, told(t, "1 + 2 * 3", "-9223372036854775808 / -1", "7 / (2 - 2)", "7 % 0 * 0", "2 ? 1 / 0 : 3", "5 < 3 ? x : 7"))
	says(t, q, "7 = 1 + 2 * 3", "6 = 2 * 3", "-9223372036854775808 / -1 = -9223372036854775808", "7 / (2 - 2) # 0", "7 % 0 * 0 # 0", "2 ? 1 / 0 : 3 # 3", "5 < 3 = 0", "0 ? x : 7 # 7")
}

// TestLiteralMakesClassesOne: the literal is there already, or is put into several classes.
func TestLiteralMakesClassesOne(t *testing.T) {
	p := told(t, "1 + 2", "3", "x * (1 + 2)", "x * 3")
	q, times := folds(t, p)
	says(t, p, "1 + 2 # 3", "x * (1 + 2) # x * 3")
	says(t, q, "1 + 2 = 3", "x * (1 + 2) = x * 3")
	if len(q.Classes) != 5 || times != 1 || fmt.Sprint(q.Roots) != fmt.Sprint([]int{2, 2, 4, 4}) {
		t.Error(drawing(q), times)
	}
	q, times = folds(t, told(t, "y / (1 + 2)", "y / (7 - 4)", "y / (9 / 3)"))
	says(t, q, "y / (1 + 2) = y / (7 - 4)", "y / (9 / 3) = y / 3", "7 - 4 = 3")
	if times != 1 {
		t.Error(times)
	}
	// What is in the class of the literal comes, too.
	q, _ = folds(t, told(t, "z = 4", "w = 2 + 2", "-w", "-z"))
	says(t, q, "z = w", "-z = -w", "-w = -4", "no 0")
}

// TestFactsAskedAgain: what has become one makes further nodes one, by which further classes are Const.
func TestFactsAskedAgain(t *testing.T) {
	q, times := folds(t, told(t, "3 + z = 8", "((1 + 2) + z) * 2"))
	says(t, q, "1 + 2 = 3", "1 + 2 + z = 8", "(1 + 2 + z) * 2 = 16", "z # 8")
	if times != 2 {
		t.Error(times)
	}
	// A chain of these: each of its constants is known only when the one ahead has its literal.
	lines := []string{"v0 = 1 + 2"}
	number := int64(3)
	for k := range 40 {
		lines = append(lines, fmt.Sprintf("%d ^ z = %d", number, k+100), fmt.Sprintf("v%d = (v%d ^ z) * 7", k+1, k))
		number = int64(k+100) * 7
	}
	q, times = folds(t, told(t, lines...))
	says(t, q, "v40 = 973", "v1 = 700", "v0 ^ z = 100")
	if times != 41 {
		t.Error(times)
	}
}

// TestTwoNumbers: a class that is given several keeps to the one that the facts tell, and has the others only where they stand.
func TestTwoNumbers(t *testing.T) {
	for _, c := range []struct {
		lines []string
		want  []string
	}{
		// Both in one step: the lesser.
		{[]string{"1 + 2 = 2 * 5", "-(1 + 2)"}, []string{"1 + 2 = 3", "no 10", "-(1 + 2) = -3", "no -10"}},
		{[]string{"1 - 2 = 2 * 5"}, []string{"1 - 2 = -1", "no 10"}},
		// In several: the first.
		{[]string{"4 + 5 = 1 + 0 - 1"}, []string{"4 + 5 = 9", "1 + 0 = 1", "no 0 - 1", "9 # 0"}},
		// A literal is ahead of all else.
		{[]string{"9 = 1 + 2", "-(1 + 2)"}, []string{"1 + 2 = 9", "no 3", "-(1 + 2) = -9"}},
		{[]string{"9 = 5", "5 + 1", "9 + 1"}, []string{"5 + 1 = 6", "9 + 1 = 6", "5 = 9", "no 10"}},
		// Two classes with numbers of their own become one by others.
		{[]string{"3 + z = 8", "(1 + 2) + z = 2 * 5", "-(3 + z)", "~((1 + 2) + z)"}, []string{"3 + z = 8", "2 * 5 = 8", "10 = 8", "-8 = -(1 + 2 + z)", "~8 = -11", "no -9"}},
		{[]string{"0 = 1"}, []string{"0 = 1", "no 2"}},
		{[]string{"0 = 1", "0 + 1", "1 + 1"}, []string{"0 + 1 = 0", "1 + 1 = 1", "no 2"}},
		{[]string{"0 = 1", "1 / 1", "1 / 0"}, []string{"1 / 1 # 0", "1 / 0 # 1"}},
		{[]string{"x = x + 1", "x = 7"}, []string{"x + 1 = 7", "no 8"}},
	} {
		p := told(t, c.lines...)
		q, _ := folds(t, p)
		says(t, q, c.want...)
	}
}

// TestFoldOfPicturesBeyondExpressions: classes whose least expressions are no expression.
func TestFoldOfPicturesBeyondExpressions(t *testing.T) {
	p := tower(29)
	q, _ := folds(t, p)
	is(t, q, drawing(p))
	// With a number below all is Const, and small.
	p = tower(29)
	p.Classes[1].Nodes = []api.Node{lit(3)}
	p.Classes[0].Nodes = []api.Node{lit(2)}
	if picture.Check(p) != api.OK {
		t.Fatal(drawing(p))
	}
	q, times := folds(t, p)
	says(t, q, "3 + 3 = 6", fmt.Sprint(3<<29))
	if times != 1 || slices.ContainsFunc(q.Classes, func(c api.Class) bool { return c.Size != 1 }) {
		t.Error(drawing(q), times)
	}
}

// tower is a variable, another one, and so many sums of what stands right ahead with itself; the last has the size 2^(high+1) - 1.
func tower(high int) api.Picture {
	p := api.Picture{Classes: []api.Class{sized(1, vari("a")), sized(1, vari("y"))}}
	size := 1
	for k := range high {
		size = 2*size + 1
		p.Classes = append(p.Classes, sized(size, do(api.OpAdd, k+1, k+1)))
	}
	p.Roots = []int{high + 1, 0}
	return p
}

// TestFoldOfRandomPictures: against both reckonings.
func TestFoldOfRandomPictures(t *testing.T) {
	r := rand.New(rand.NewSource(1811))
	var often [4]int
	for range 700 {
		p := chance(t, r, r.Intn(6))
		_, times := folds(t, p)
		often[min(times, 3)]++
	}
	if slices.Contains(often[:3], 0) {
		t.Error(often)
	}
}

// TestLongChains: there is no limit to how often literals are put in, nor to how much follows from one.
func TestLongChains(t *testing.T) {
	g := graph.New()
	number := int64(3)
	build(t, g, "v0 = 1 + 2")
	for k := range 600 {
		build(t, g, fmt.Sprintf("%d ^ z = %d", number, k+1000), fmt.Sprintf("v%d = (v%d ^ z) * 7", k+1, k))
		number = int64(k+1000) * 7
	}
	q, why, bad := rounds.Fold(drawn(t, g))
	if why != 0 || bad != api.OK {
		t.Fatal(why, bad)
	}
	says(t, q, fmt.Sprint("v600 = ", 1599*7))
	folded(t, q)
	// Two towers over what one literal makes one.
	g = graph.New()
	for k := range 1000 {
		build(t, g, fmt.Sprintf("v%d = a / v%d", k+1, k), fmt.Sprintf("w%d = a / w%d", k+1, k))
	}
	build(t, g, "v0 = 2 + 2", "w0 = 8 / 2")
	q, why, bad = rounds.Fold(drawn(t, g))
	if why != 0 || bad != api.OK {
		t.Fatal(why, bad)
	}
	says(t, q, "v1000 = w1000", "v0 = 4")
	folded(t, q)
}

// TestRootsOfFold: they are the picture's, in their order, as often as they stand there.
func TestRootsOfFold(t *testing.T) {
	p := told(t, "x * (1 + 2)", "3", "1 + 2", "x * 3", "3", "y")
	q, _ := folds(t, p)
	want := []string{"x * 3", "3", "3", "x * 3", "3", "y"}
	if len(q.Roots) != len(want) {
		t.Fatal(q.Roots)
	}
	for i, s := range want {
		if q.Roots[i] != home(t, q, s) {
			t.Error(i, s, drawing(q))
		}
	}
	p.Roots = nil
	if q, _ = folds(t, p); len(q.Roots) != 0 {
		t.Error(q.Roots)
	}
}

// TestFoldOfWhatIsNotSound: nothing is answered beside the error.
func TestFoldOfWhatIsNotSound(t *testing.T) {
	folds(t, base())
	for what, spoil := range spoils() {
		p := base()
		spoil(&p)
		if picture.Check(p) != api.ErrForm {
			t.Fatalf("%s: the picture is sound", what)
		}
		if q, why, bad := rounds.Fold(p); len(q.Classes)+len(q.Roots) > 0 || why != 0 || bad != api.ErrForm {
			t.Errorf("Fold, %s: %.3000s, %d, %d", what, drawing(q), why, bad)
		}
		for _, mask := range []uint64{0, 1, allRules, 1 << 44, math.MaxUint64} {
			if q, why, bad := rounds.Round(p, mask); len(q.Classes)+len(q.Roots) > 0 || why != 0 || bad != api.ErrForm {
				t.Errorf("Round, %s: %.3000s, %d, %d", what, drawing(q), why, bad)
			}
		}
	}
}

// base is a sound picture of several kinds of classes, some of them in cycles.
func base() api.Picture {
	return api.Picture{
		Classes: []api.Class{
			sized(1, lit(-1)),
			sized(1, lit(0), lit(4)),
			sized(1, vari("a"), vari("b"), do(api.OpAdd, 2, 1)),
			sized(1, vari("é")),
			sized(2, do(api.OpNeg, 0)),
			sized(2, do(api.OpNot, 3)),
			sized(3, do(api.OpMul, 2, 1), do(api.OpAnd, 3, 0)),
			sized(3, do(api.OpDiv, 2, 3)),
		},
		Roots: []int{6, 0, 6},
	}
}

// spoils is ways in which base can fail to be sound.
func spoils() map[string]func(p *api.Picture) {
	const last = 7
	more := func(c int, n ...api.Node) func(p *api.Picture) {
		return func(p *api.Picture) { p.Classes[c].Nodes = append(p.Classes[c].Nodes, n...) }
	}
	behind := func(c api.Class) func(p *api.Picture) {
		return func(p *api.Picture) { p.Classes = append(p.Classes, c) }
	}
	size := func(c, size int) func(p *api.Picture) {
		return func(p *api.Picture) { p.Classes[c].Size = size }
	}
	return map[string]func(p *api.Picture){
		"a class without nodes":             behind(api.Class{Size: 9}),
		"op 0":                              more(last, api.Node{}),
		"an operator below all":             more(last, api.Node{Op: -1}),
		"an operator above all":             more(last, do(19, 0)),
		"a hole":                            more(last, api.Node{Op: api.OpHole, Name: "a"}),
		"a literal with a kid":              more(last, api.Node{Op: api.OpLit, N: 5, Kids: []int{0}}),
		"a sum of one":                      more(last, do(api.OpAdd, 0)),
		"a choice of two":                   more(last, do(api.OpIf, 0, 0)),
		"a choice of four":                  more(last, do(api.OpIf, 0, 0, 0, 0)),
		"kid -1":                            more(last, do(api.OpNot, -1)),
		"a kid behind the last class":       more(last, do(api.OpNot, last+1)),
		"a kid far above":                   more(last, do(api.OpRem, 0, math.MaxInt)),
		"root -1":                           func(p *api.Picture) { p.Roots = []int{-1} },
		"a root behind the last class":      func(p *api.Picture) { p.Roots = []int{0, last + 1} },
		"an operator with N":                more(last, api.Node{Op: api.OpNot, N: 1, Kids: []int{0}}),
		"an operator with a name":           more(last, api.Node{Op: api.OpNot, Name: "a", Kids: []int{0}}),
		"a variable that is a number":       more(3, vari("3")),
		"a node twice":                      more(last, do(api.OpDiv, 2, 3)),
		"a node in two classes":             more(last, do(api.OpNot, 3)),
		"a class of itself alone":           behind(sized(9, do(api.OpNeg, last+1))),
		"Size 0":                            size(0, 0),
		"a Size that is too small":          size(6, 2),
		"a Size that is too great":          size(last, 4),
		"Size MaxSize":                      size(last, api.MaxSize),
		"nodes about":                       func(p *api.Picture) { slices.Reverse(p.Classes[6].Nodes) },
		"two classes about":                 func(p *api.Picture) { slices.Reverse(p.Classes[:2]) },
		"a million classes":                 func(p *api.Picture) { p.Classes = make([]api.Class, 1<<20) },
		"classes without nodes, and a root": func(p *api.Picture) { *p = api.Picture{Roots: []int{0}} },
	}
}
