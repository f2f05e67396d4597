package show_test

import (
	"fmt"
	"math"
	"math/rand"
	"slices"
	"strings"
	"testing"

	"sorrel/api"
	"sorrel/parse"
	"sorrel/show"
)

// shows holds what Show answers against a text.
func shows(t *testing.T, x tree, want string) {
	t.Helper()
	if got, e := show.Show(x.nodes()); got != want || e != api.OK {
		t.Errorf("Show of %s = %q, %d, want %q", text(x.nodes()), got, e, want)
	}
}

// lisps holds what Lisp answers against a text.
func lisps(t *testing.T, x tree, want string) {
	t.Helper()
	if got, e := show.Lisp(x.nodes()); got != want || e != api.OK {
		t.Errorf("Lisp of %s = %q, %d, want %q", text(x.nodes()), got, e, want)
	}
}

// refuses holds both calls against an error.
func refuses(t *testing.T, l []api.Node) {
	t.Helper()
	if got, e := show.Show(l); got != "" || e != api.ErrForm {
		t.Errorf("Show of %.300s = %q, %d, want ErrForm", text(l), got, e)
	}
	if got, e := show.Lisp(l); got != "" || e != api.ErrForm {
		t.Errorf("Lisp of %.300s = %q, %d, want ErrForm", text(l), got, e)
	}
}

var (
	a, b, c = vari("a"), vari("b"), vari("c")
	d, e    = vari("d"), vari("e")
)

// numbers are literals at their ends and some between.
var numbers = []int64{0, 1, -1, 5, -5, 10, -90, 100, 1 << 31, -1 << 31, math.MaxInt64, -math.MaxInt64, math.MinInt64}

// names are of several scripts, some of 16 characters.
var names = []string{"a", "Z", "_", "x0", "x₂", "größe3", "Ωμέγα", "Жук", "名", "\U00010400", "a٣４", "neg", "if", strings.Repeat("a", 16), strings.Repeat("é", 16), strings.Repeat("名", 16), strings.Repeat("\U0001044f", 16), "名" + strings.Repeat("₉", 15)}

// sample is an operator with parts that are leaves.
func sample(op int, leaves ...string) tree {
	x := do(op)
	for _, name := range leaves[:parts[op]] {
		x.parts = append(x.parts, vari(name))
	}
	return x
}

// back holds the text of a tree against what it is read as; without any one pair of its brackets it must be read as something else, or as nothing.
func back(t *testing.T, x tree) {
	t.Helper()
	l := x.nodes()
	s, err := show.Show(l)
	read := parse.Parse
	if slices.ContainsFunc(l, func(n api.Node) bool { return n.Op == api.OpHole }) {
		read = parse.Pattern
	}
	if got, _, e := read(s); err != api.OK || e != api.OK || text(got) != text(l) {
		t.Fatalf("Show of %s = %q, %d, which is read as %s, %d", text(l), s, err, text(got), e)
	}
	var open []int
	for i := range s {
		switch s[i] {
		case '(':
			open = append(open, i)
		case ')':
			from := open[len(open)-1]
			open = open[:len(open)-1]
			bare := s[:from] + s[from+1:i] + s[i+1:]
			if got, _, e := read(bare); e == api.OK && text(got) == text(l) {
				t.Fatalf("Show of %s = %q: the brackets at %d and %d are not needed", text(l), s, from, i)
			}
		}
	}
}

// P5.1

func TestLiterals(t *testing.T) {
	for n, want := range map[int64]string{0: "0", 1: "1", -1: "-1", 7: "7", 10: "10", -10: "-10", 1234567890: "1234567890", math.MaxInt64: "9223372036854775807", math.MinInt64: "-9223372036854775808"} {
		shows(t, lit(n), want)
		lisps(t, lit(n), want)
		lisps(t, do(api.OpNeg, lit(n)), "(neg "+want+")")
		shows(t, do(api.OpNot, lit(n)), "~"+want)
		shows(t, do(api.OpSub, lit(n), lit(n)), want+" - "+want)
		shows(t, do(api.OpMul, lit(n), a), want+" * a")
		shows(t, do(api.OpEq, a, lit(n)), "a == "+want)
		shows(t, do(api.OpIf, lit(n), lit(n), lit(n)), want+" ? "+want+" : "+want)
		if n < 0 {
			shows(t, do(api.OpNeg, lit(n)), "-"+want)
			shows(t, do(api.OpNeg, do(api.OpNeg, lit(n))), "--"+want)
			shows(t, do(api.OpNot, do(api.OpNeg, lit(n))), "~-"+want)
		} else {
			shows(t, do(api.OpNeg, lit(n)), "-("+want+")")
			shows(t, do(api.OpNeg, do(api.OpNeg, lit(n))), "--("+want+")")
			shows(t, do(api.OpNot, do(api.OpNeg, lit(n))), "~-("+want+")")
		}
		shows(t, do(api.OpNeg, do(api.OpNot, lit(n))), "-~"+want)
		for _, op := range []int{api.OpNeg, api.OpNot} {
			back(t, do(op, lit(n)))
			back(t, do(op, do(api.OpNeg, lit(n))))
			back(t, do(api.OpSub, a, do(op, lit(n))))
			back(t, do(api.OpSub, do(op, lit(n)), a))
		}
	}
}

func TestNames(t *testing.T) {
	for _, name := range names {
		shows(t, vari(name), name)
		shows(t, hole(name), "@"+name)
		lisps(t, vari(name), name)
		lisps(t, hole(name), "@"+name)
		shows(t, do(api.OpNeg, vari(name)), "-"+name)
		shows(t, do(api.OpNot, hole(name)), "~@"+name)
		shows(t, do(api.OpIf, hole(name), vari(name), lit(-1)), "@"+name+" ? "+name+" : -1")
		lisps(t, do(api.OpShr, vari(name), hole(name)), "(shr "+name+" @"+name+")")
		back(t, vari(name))
		back(t, hole(name))
		back(t, do(api.OpAdd, hole(name), do(api.OpAdd, vari(name), hole(name))))
	}
}

func TestOperators(t *testing.T) {
	for op, want := range map[int]string{
		api.OpNeg: "-a", api.OpNot: "~a", api.OpAdd: "a + b", api.OpSub: "a - b", api.OpMul: "a * b", api.OpDiv: "a / b", api.OpRem: "a % b", api.OpAnd: "a & b", api.OpOr: "a | b", api.OpXor: "a ^ b",
		api.OpShl: "a << b", api.OpShr: "a >> b", api.OpEq: "a == b", api.OpLt: "a < b", api.OpIf: "a ? b : c",
	} {
		shows(t, sample(op, "a", "b", "c"), want)
	}
}

// ranks are those of the chapter.
var ranks = map[int]int{
	api.OpIf: 1, api.OpOr: 2, api.OpXor: 3, api.OpAnd: 4, api.OpEq: 5, api.OpLt: 6, api.OpShl: 7, api.OpShr: 7, api.OpAdd: 8, api.OpSub: 8, api.OpMul: 9, api.OpDiv: 9, api.OpRem: 9, api.OpNeg: 10, api.OpNot: 10,
}

// bracketed is what the chapter says of a part that is no leaf.
func bracketed(op, place, part int) bool {
	r := ranks[part]
	switch ranks[op] {
	case 1:
		return place == 0 && r == 1
	case 5, 6:
		return r <= ranks[op]
	case 10:
		return r < 10
	}
	return place == 0 && r < ranks[op] || place == 1 && r <= ranks[op]
}

// TestEachInEach has every operator as each part of every operator.
func TestEachInEach(t *testing.T) {
	for op := api.OpNeg; op <= api.OpIf; op++ {
		for place := range parts[op] {
			for inner := api.OpNeg; inner <= api.OpIf; inner++ {
				x := sample(op, "a", "b", "c")
				x.parts[place] = sample(inner, "d", "e", "f")
				texts := []string{"a", "b", "c"}[:parts[op]]
				texts[place] = frame(inner, []string{"d", "e", "f"}[:parts[inner]])
				if bracketed(op, place, inner) {
					texts[place] = "(" + texts[place] + ")"
				}
				shows(t, x, frame(op, texts))
				if s := shown(x); s != frame(op, texts) {
					t.Errorf("the chapter's ranks make %q of what must be %q", frame(op, texts), s)
				}
				back(t, x)
			}
		}
	}
}

// TestThreeDeep has every operator in every one of those, with all parts taken at one time.
func TestThreeDeep(t *testing.T) {
	for op := api.OpNeg; op <= api.OpIf; op++ {
		for inner := api.OpNeg; inner <= api.OpIf; inner++ {
			for last := api.OpNeg; last <= api.OpIf; last++ {
				deep := sample(last, "a", "b", "c")
				middle, x := do(inner), do(op)
				for range parts[inner] {
					middle.parts = append(middle.parts, deep)
				}
				for range parts[op] {
					x.parts = append(x.parts, middle)
				}
				shows(t, x, shown(x))
				back(t, x)
			}
		}
	}
}

func TestBrackets(t *testing.T) {
	shows(t, do(api.OpSub, do(api.OpSub, do(api.OpSub, a, b), c), d), "a - b - c - d")
	shows(t, do(api.OpSub, a, do(api.OpSub, b, do(api.OpSub, c, d))), "a - (b - (c - d))")
	shows(t, do(api.OpAdd, do(api.OpSub, a, b), do(api.OpAdd, c, d)), "a - b + (c + d)")
	shows(t, do(api.OpRem, do(api.OpDiv, a, b), do(api.OpMul, c, d)), "a / b % (c * d)")
	shows(t, do(api.OpShr, do(api.OpShl, a, b), do(api.OpShl, c, d)), "a << b >> (c << d)")
	shows(t, do(api.OpEq, do(api.OpLt, a, b), do(api.OpLt, c, d)), "a < b == c < d")
	shows(t, do(api.OpLt, do(api.OpEq, a, b), do(api.OpEq, c, d)), "(a == b) < (c == d)")
	shows(t, do(api.OpEq, a, do(api.OpEq, b, c)), "a == (b == c)")
	shows(t, do(api.OpLt, a, do(api.OpLt, b, c)), "a < (b < c)")
	shows(t, do(api.OpIf, a, do(api.OpIf, b, c, d), e), "a ? b ? c : d : e")
	shows(t, do(api.OpIf, do(api.OpOr, a, b), do(api.OpOr, a, b), do(api.OpOr, a, b)), "a | b ? a | b : a | b")
	shows(t, do(api.OpOr, do(api.OpIf, a, b, c), do(api.OpIf, a, b, c)), "(a ? b : c) | (a ? b : c)")
	shows(t, do(api.OpNot, do(api.OpIf, a, b, c)), "~(a ? b : c)")
	shows(t, do(api.OpNeg, do(api.OpNot, do(api.OpNeg, a))), "-~-a")
	shows(t, do(api.OpMul, do(api.OpNeg, a), do(api.OpNot, b)), "-a * ~b")
	shows(t, do(api.OpNeg, do(api.OpMul, hole("a"), b)), "-(@a * b)")
	shows(t, do(api.OpNeg, hole("a")), "-@a")
	shows(t, do(api.OpSub, a, do(api.OpNeg, lit(5))), "a - -(5)")
	shows(t, do(api.OpSub, a, do(api.OpNeg, lit(-5))), "a - --5")
	shows(t, do(api.OpAdd, lit(-5), do(api.OpAdd, lit(-5), lit(-5))), "-5 + (-5 + -5)")
	levels := do(api.OpOr, a, do(api.OpXor, b, do(api.OpAnd, c, do(api.OpEq, d, do(api.OpLt, e, do(api.OpShl, a, do(api.OpAdd, b, do(api.OpMul, c, do(api.OpNot, d)))))))))
	shows(t, levels, "a | b ^ c & d == e < a << b + c * ~d")
}

// random is a tree of just that size; with holes of up to six names, if it is to be a pattern.
func random(r *rand.Rand, size int, pattern bool) tree {
	var choice []int
	for op, n := range parts {
		if n < size && (n == 0) == (size == 1) && (op != api.OpHole || pattern) {
			choice = append(choice, op)
		}
	}
	slices.Sort(choice)
	x := do(choice[r.Intn(len(choice))])
	switch x.Op {
	case api.OpLit:
		x.N = numbers[r.Intn(len(numbers))]
	case api.OpVar:
		x.Name = names[r.Intn(len(names))]
	case api.OpHole:
		x.Name = names[r.Intn(6)]
	}
	left := size - 1
	for i := parts[x.Op]; i > 0; i-- {
		k := left
		if i > 1 {
			k = 1 + r.Intn(left-i+1)
		}
		x.parts = append(x.parts, random(r, k, pattern))
		left -= k
	}
	return x
}

// either is an expression or a pattern, by turns.
func either(r *rand.Rand, turn int) tree {
	if turn%2 == 0 {
		return random(r, 1+r.Intn(api.MaxPattern), true)
	}
	return random(r, 1+r.Intn(api.MaxTerm), false)
}

func TestRandomTrees(t *testing.T) {
	r := rand.New(rand.NewSource(5))
	for i := range 4000 {
		x := either(r, i)
		shows(t, x, shown(x))
		back(t, x)
	}
}

// TestEveryShortTree has every tree of up to four nodes, with an operator of each kind that takes brackets in its own way.
func TestEveryShortTree(t *testing.T) {
	all := map[int][]tree{1: {a, lit(5), lit(-5), hole("x")}}
	for size := 2; size <= 4; size++ {
		for _, op := range []int{api.OpNeg, api.OpNot, api.OpSub, api.OpMul, api.OpEq, api.OpLt, api.OpIf} {
			all[size] = append(all[size], grown(all, op, parts[op], size-1)...)
		}
		for _, x := range all[size] {
			shows(t, x, shown(x))
			back(t, x)
		}
	}
}

// grown are the trees of an operator whose parts, so many as are missing, have so many nodes in all.
func grown(all map[int][]tree, op, missing, nodes int, done ...tree) []tree {
	if missing == 0 && nodes == 0 {
		return []tree{do(op, slices.Clone(done)...)}
	}
	var out []tree
	for k := 1; missing > 0 && k <= nodes; k++ {
		for _, x := range all[k] {
			out = append(out, grown(all, op, missing-1, nodes-k, append(done, x)...)...)
		}
	}
	return out
}

// P5.2

func TestWords(t *testing.T) {
	for op, want := range map[int]string{
		api.OpNeg: "(neg a)", api.OpNot: "(not a)", api.OpAdd: "(add a b)", api.OpSub: "(sub a b)", api.OpMul: "(mul a b)", api.OpDiv: "(div a b)", api.OpRem: "(rem a b)", api.OpAnd: "(and a b)", api.OpOr: "(or a b)", api.OpXor: "(xor a b)",
		api.OpShl: "(shl a b)", api.OpShr: "(shr a b)", api.OpEq: "(eq a b)", api.OpLt: "(lt a b)", api.OpIf: "(if a b c)",
	} {
		lisps(t, sample(op, "a", "b", "c"), want)
	}
	lisps(t, do(api.OpNeg, lit(5)), "(neg 5)")
	lisps(t, do(api.OpNeg, do(api.OpNeg, lit(-5))), "(neg (neg -5))")
	lisps(t, do(api.OpSub, a, do(api.OpSub, b, c)), "(sub a (sub b c))")
	lisps(t, do(api.OpSub, do(api.OpSub, a, b), c), "(sub (sub a b) c)")
	lisps(t, do(api.OpIf, do(api.OpEq, a, lit(-1)), hole("x"), do(api.OpNot, hole("x"))), "(if (eq a -1) @x (not @x))")
}

func TestLispBack(t *testing.T) {
	r := rand.New(rand.NewSource(55))
	for i := range 4000 {
		x := either(r, i)
		s, err := show.Lisp(x.nodes())
		got, rest, ok := unlisp(s)
		if err != api.OK || !ok || rest != "" || text(got.nodes()) != text(x.nodes()) {
			t.Fatalf("Lisp of %s = %q, %d, which is read as %s", text(x.nodes()), s, err, text(got.nodes()))
		}
	}
}

// Both calls: what is sound, and what is not.

// chain is a tree of so many nodes, one in another.
func chain(size int, leaf tree) tree {
	for range size - 1 {
		leaf = do(api.OpNeg, leaf)
	}
	return leaf
}

// sum is a tree of as many leaves, joined from the left.
func sum(leaves ...tree) tree {
	x := leaves[0]
	for _, y := range leaves[1:] {
		x = do(api.OpAdd, x, y)
	}
	return x
}

func TestSize(t *testing.T) {
	shows(t, chain(64, a), strings.Repeat("-", 63)+"a")
	lisps(t, chain(64, a), strings.Repeat("(neg ", 63)+"a"+strings.Repeat(")", 63))
	refuses(t, chain(65, a).nodes())
	refuses(t, chain(1000, a).nodes())
	leaves := slices.Repeat([]tree{a}, 33)
	shows(t, sum(leaves[:32]...), "a"+strings.Repeat(" + a", 31))
	shows(t, do(api.OpNot, sum(leaves[:32]...)), "~(a"+strings.Repeat(" + a", 31)+")")
	lisps(t, sum(leaves[:32]...), strings.Repeat("(add ", 31)+"a"+strings.Repeat(" a)", 31))
	refuses(t, sum(leaves...).nodes())
	right := a
	for range 31 {
		right = do(api.OpSub, a, right)
	}
	shows(t, right, strings.Repeat("a - (", 30)+"a - a"+strings.Repeat(")", 30))
	back(t, do(api.OpNeg, right))
	r := rand.New(rand.NewSource(555))
	for range 200 {
		x := random(r, 64, false)
		shows(t, x, shown(x))
		refuses(t, do(api.OpNot, x).nodes())
	}
}

func TestPatternSize(t *testing.T) {
	x := hole("x")
	shows(t, chain(16, x), strings.Repeat("-", 15)+"@x")
	lisps(t, chain(16, x), strings.Repeat("(neg ", 15)+"@x"+strings.Repeat(")", 15))
	back(t, chain(16, x))
	refuses(t, chain(17, x).nodes())
	refuses(t, chain(64, x).nodes())
	refuses(t, chain(65, x).nodes())
	// One hole among many variables makes a pattern of the whole.
	leaves := slices.Repeat([]tree{a}, 32)
	for i := range leaves {
		one := slices.Clone(leaves)
		one[i] = x
		refuses(t, sum(one...).nodes())
		if i < 8 {
			back(t, sum(one[:8]...))
			back(t, do(api.OpNeg, sum(one[:8]...)))
			refuses(t, sum(one[:9]...).nodes())
			refuses(t, do(api.OpNeg, do(api.OpNot, sum(one[:8]...))).nodes())
		}
	}
	shows(t, chain(17, a), strings.Repeat("-", 16)+"a")
}

func TestHoles(t *testing.T) {
	six := []tree{hole("a"), hole("b"), hole("c"), hole("d"), hole("e"), hole("f")}
	shows(t, sum(six...), "@a + @b + @c + @d + @e + @f")
	shows(t, sum(append(six, hole("c"), hole("f"))...), "@a + @b + @c + @d + @e + @f + @c + @f")
	lisps(t, sum(append(six, hole("a"))...), "(add (add (add (add (add (add @a @b) @c) @d) @e) @f) @a)")
	// A variable is no hole, whatever its name.
	shows(t, sum(append(six, vari("g"), vari("a"))...), "@a + @b + @c + @d + @e + @f + g + a")
	back(t, sum(append(six, vari("g"), vari("a"))...))
	refuses(t, sum(append(six, hole("g"))...).nodes())
	refuses(t, sum(append(six, hole("g"), hole("h"))...).nodes())
	refuses(t, sum(append(six, hole("A"))...).nodes())
	refuses(t, sum(append([]tree{hole("a")}, append(six, hole("é"))...)...).nodes())
	// Names of the same characters at first are names apart.
	refuses(t, sum(hole("a"), hole("aa"), hole("aaa"), hole("a1"), hole("a₁"), hole("a١"), hole("a１")).nodes())
	shows(t, sum(slices.Repeat([]tree{hole("é")}, 8)...), "@é"+strings.Repeat(" + @é", 7))
	refuses(t, sum(slices.Repeat([]tree{hole("é")}, 9)...).nodes())
}

// TestLongest: names of the longest characters in a tree with the most leaves make the longest text there is, and MaxText is not reached.
func TestLongest(t *testing.T) {
	name := strings.Repeat("\U00010400", 16)
	x := vari(name)
	for range 21 {
		x = do(api.OpIf, x, vari(name), vari(name))
	}
	want := strings.Repeat("(", 20) + name + strings.Repeat(" ? "+name+" : "+name+")", 20) + " ? " + name + " : " + name
	shows(t, x, want)
	back(t, x)
	lisps(t, x, strings.Repeat("(if ", 21)+name+strings.Repeat(" "+name+" "+name+")", 21))
	if len(want) > 4096 {
		t.Errorf("a text of %d bytes", len(want))
	}
	most := []int{0, len(name)}
	for size := 2; size <= 64; size++ {
		longest := 1 + 2 + most[size-1]
		for i := 1; i < size-1; i++ {
			longest = max(longest, 4+4+most[i]+most[size-1-i])
			for j := 1; j < size-1-i; j++ {
				longest = max(longest, 6+6+most[i]+most[j]+most[size-1-i-j])
			}
		}
		most = append(most, longest)
	}
	if most[64] > 4096 || len(want) > most[64] {
		t.Errorf("a text may have %d bytes", most[64])
	}
}

// node is one without parts.
func node(op int, n int64, name string) api.Node { return api.Node{Op: op, N: n, Name: name} }

// with is a node of an operator with these kids.
func with(op int, kids ...int) api.Node { return api.Node{Op: op, Kids: kids} }

func TestWrongLists(t *testing.T) {
	x, one, at := node(api.OpVar, 0, "a"), node(api.OpLit, 1, ""), node(api.OpHole, 0, "x")
	for _, l := range [][]api.Node{
		nil, {}, {{}}, {x, x}, {x, one}, {at, at}, {x, at}, {one, one, one}, make([]api.Node, 3, 9),
		{node(0, 0, "")}, {node(-1, 0, "")}, {node(19, 0, "")}, {node(math.MaxInt, 0, "")}, {node(math.MinInt, 0, "")}, {node(19, 0, "a")}, {x, with(0, 0)}, {x, with(19, 0)}, {x, with(-4, 0)}, {x, x, with(22, 0, 1)},
		{with(api.OpNeg)}, {with(api.OpAdd)}, {with(api.OpIf)}, {x, with(api.OpNeg)}, {x, with(api.OpAdd, 0)}, {x, x, with(api.OpNeg, 0, 1)}, {x, x, with(api.OpNot, 1)}, {x, x, with(api.OpIf, 0, 1)}, {x, x, x, with(api.OpAdd, 0, 1, 2)}, {x, x, x, x, with(api.OpIf, 0, 1, 2, 3)}, {x, x, x, with(api.OpAdd, 1, 2)},
		{x, with(api.OpVar, 0)}, {x, with(api.OpLit, 0)}, {x, with(api.OpHole, 0)}, {at, {Op: api.OpHole, Name: "y", Kids: []int{0}}}, {x, {Op: api.OpVar, Name: "y", Kids: []int{0}}}, {x, {Op: api.OpLit, N: 1, Kids: []int{0}}},
		{x, x, with(api.OpAdd, 1, 0)}, {x, x, with(api.OpAdd, 0, 0)}, {x, x, with(api.OpAdd, 1, 1)}, {x, x, with(api.OpAdd, 0, 2)}, {x, x, with(api.OpAdd, 1, 2)}, {x, x, with(api.OpAdd, -1, 0)}, {x, with(api.OpAdd, -1, 0)}, {x, with(api.OpAdd, 0, 0)}, {at, with(api.OpMul, 0, 0)}, {x, with(api.OpNeg, 1)}, {x, with(api.OpNeg, -1)}, {with(api.OpNeg, -1)}, {with(api.OpNeg, 0)}, {x, with(api.OpNeg, math.MaxInt)}, {x, with(api.OpNeg, math.MinInt)}, {with(api.OpNeg, 1), x}, {with(api.OpAdd, 1, 2), x, x}, {x, x, with(api.OpNeg, 0), with(api.OpAdd, 1, 2)}, {x, with(api.OpNeg, 0), x}, {x, with(api.OpNeg, 0), with(api.OpNeg, 0)},
		{node(api.OpVar, 0, "")}, {node(api.OpVar, 0, "3")}, {node(api.OpVar, 0, "₂x")}, {node(api.OpVar, 0, "a b")}, {node(api.OpVar, 0, "a+b")}, {node(api.OpVar, 0, "@a")}, {node(api.OpVar, 0, " a")}, {node(api.OpVar, 0, "a\xff")}, {node(api.OpVar, 0, "\xff")}, {node(api.OpVar, 0, "\ufffd")}, {node(api.OpVar, 0, strings.Repeat("é", 17))}, {node(api.OpVar, 0, "×")},
		{node(api.OpHole, 0, "")}, {node(api.OpHole, 0, "3")}, {node(api.OpHole, 0, "@x")}, {node(api.OpHole, 0, "x y")}, {node(api.OpHole, 0, "x\x80")}, {node(api.OpHole, 0, strings.Repeat("x", 17))}, {node(api.OpHole, 0, "$")},
		{node(api.OpVar, 1, "a")}, {node(api.OpVar, math.MinInt64, "a")}, {node(api.OpHole, 1, "x")}, {node(api.OpHole, -1, "x")}, {node(api.OpLit, 1, "a")}, {node(api.OpLit, 0, "a")}, {node(api.OpLit, 0, " ")}, {x, {Op: api.OpNeg, N: 1, Kids: []int{0}}}, {x, {Op: api.OpNeg, Name: "a", Kids: []int{0}}}, {x, x, {Op: api.OpAdd, N: -1, Kids: []int{0, 1}}}, {x, x, x, {Op: api.OpIf, Name: "if", Kids: []int{0, 1, 2}}}, {at, {Op: api.OpNot, N: 7, Kids: []int{0}}},
		slices.Repeat([]api.Node{x}, 1<<20), slices.Repeat([]api.Node{at}, 1<<20), make([]api.Node, 64), make([]api.Node, 65),
	} {
		if proper(l) {
			t.Fatalf("%.300s is sound", text(l))
		}
		refuses(t, l)
	}
}

// spoil changes one thing of one node.
func spoil(r *rand.Rand, l []api.Node) {
	n := &l[r.Intn(len(l))]
	switch r.Intn(6) {
	case 0:
		n.Op = r.Intn(21) - 1
	case 1:
		n.N = numbers[r.Intn(4)]
	case 2:
		n.Name = []string{"", "b", "x", "3", "é\xff", "longer than names are"}[r.Intn(6)]
	case 3:
		if len(n.Kids) > 0 {
			n.Kids[r.Intn(len(n.Kids))] += r.Intn(5) - 2
		}
	case 4:
		n.Kids = append(n.Kids, r.Intn(len(l)))
	case 5:
		n.Kids = n.Kids[:max(0, len(n.Kids)-1)]
	}
}

// TestSpoiltLists holds lists that are nearly sound against the second reckoning, which some of them pass.
func TestSpoiltLists(t *testing.T) {
	r := rand.New(rand.NewSource(5555))
	sound := 0
	for i := range 40000 {
		l := random(r, 1+r.Intn(8+i%20), i%3 == 0).nodes()
		for range 1 + r.Intn(2) {
			spoil(r, l)
		}
		if !proper(l) {
			refuses(t, l)
			continue
		}
		sound++
		_, e := show.Show(l)
		if _, f := show.Lisp(l); e != api.OK || f != api.OK {
			t.Fatalf("Show and Lisp of %s: %d, %d", text(l), e, f)
		}
	}
	if sound < 1000 || sound > 39000 {
		t.Errorf("%d of the lists are sound", sound)
	}
}

// The rules that hold for all calls.

// roomy is a list with spare room behind it and behind its kids, all of it filled.
func roomy(l []api.Node) []api.Node {
	out := make([]api.Node, 0, len(l)+2)
	for _, n := range l {
		n.Kids = append(append(make([]int, 0, len(n.Kids)+2), n.Kids...), 7, 8)[:len(n.Kids)]
		out = append(out, n)
	}
	return append(out, api.Node{Op: api.OpVar, Name: "spare"}, api.Node{Op: api.OpHole, Name: "spare", Kids: []int{9}})[:len(l)]
}

// whole is the text of a list with all its spare room.
func whole(l []api.Node) string {
	var s strings.Builder
	for _, n := range l[:cap(l)] {
		fmt.Fprint(&s, n.Op, n.N, n.Name, n.Kids[:cap(n.Kids)], "; ")
	}
	return s.String()
}

func TestHandedInStays(t *testing.T) {
	r := rand.New(rand.NewSource(55555))
	for i := range 2000 {
		l := roomy(random(r, 1+r.Intn(16), true).nodes())
		if i%2 == 0 {
			spoil(r, l)
		}
		before := whole(l)
		s, e := show.Show(l)
		u, f := show.Lisp(l)
		s2, e2 := show.Show(l)
		u2, f2 := show.Lisp(l)
		if s != s2 || e != e2 || u != u2 || f != f2 || e != f {
			t.Fatalf("%s: %q, %q, %q, %q", text(l), s, s2, u, u2)
		}
		if whole(l) != before {
			t.Fatalf("%s has become %s", before, whole(l))
		}
	}
}

// TestAgain: nothing is kept from call to call, also behind what is not sound.
func TestAgain(t *testing.T) {
	all := []tree{a, lit(-5), hole("x"), sum(a, b, c), do(api.OpNeg, lit(5)), chain(64, a), chain(65, a), chain(16, hole("x")), chain(17, hole("x")), do(api.OpIf, a, b), vari("")}
	type answer struct {
		s, u string
		e, f api.Errno
	}
	ask := func(x tree) (got answer) {
		got.s, got.e = show.Show(x.nodes())
		got.u, got.f = show.Lisp(x.nodes())
		return got
	}
	var first []answer
	for _, x := range all {
		first = append(first, ask(x))
	}
	for _, x := range all {
		for i, y := range all {
			ask(x)
			if got := ask(y); got != first[i] {
				t.Errorf("%v, then %v", first[i], got)
			}
		}
	}
}

// TestSideBySide: calls at one time, on one and the same list, do not touch each other.
func TestSideBySide(t *testing.T) {
	x := do(api.OpMul, sum(hole("x"), hole("y"), a), do(api.OpNeg, lit(5)))
	l := x.nodes()
	done := make(chan bool)
	for range 8 {
		go func() {
			good := true
			for range 300 {
				s, e := show.Show(l)
				u, f := show.Lisp(l)
				good = good && s == "(@x + @y + a) * -(5)" && u == "(mul (add (add @x @y) a) (neg 5))" && e == api.OK && f == api.OK
			}
			done <- good
		}()
	}
	for range 8 {
		if !<-done {
			t.Error("a call answers otherwise beside others")
		}
	}
}

// The chapter's examples.

func TestExamples(t *testing.T) {
	shows(t, do(api.OpAdd, a, do(api.OpMul, b, lit(2))), "a + b * 2")
	shows(t, do(api.OpMul, do(api.OpAdd, a, b), lit(2)), "(a + b) * 2")
	shows(t, do(api.OpSub, a, do(api.OpSub, b, c)), "a - (b - c)")
	shows(t, do(api.OpSub, do(api.OpSub, a, b), c), "a - b - c")
	shows(t, do(api.OpNeg, lit(5)), "-(5)")
	shows(t, lit(-5), "-5")
	shows(t, do(api.OpNeg, lit(-5)), "--5")
	shows(t, do(api.OpNot, lit(5)), "~5")
	shows(t, do(api.OpNeg, do(api.OpAdd, a, b)), "-(a + b)")
	shows(t, do(api.OpEq, do(api.OpEq, a, b), c), "(a == b) == c")
	shows(t, do(api.OpIf, a, b, do(api.OpIf, c, d, e)), "a ? b : c ? d : e")
	shows(t, do(api.OpIf, do(api.OpIf, a, b, c), d, e), "(a ? b : c) ? d : e")
	lisps(t, do(api.OpAdd, a, do(api.OpMul, b, lit(2))), "(add a (mul b 2))")
	lisps(t, lit(-5), "-5")
	shows(t, hole("x"), "@x")
}

// The lists themselves, written out: what is shown does not hang on the trees of these tests.
func TestNodes(t *testing.T) {
	l := []api.Node{
		{Op: api.OpVar, Name: "a"},
		{Op: api.OpVar, Name: "b"},
		{Op: api.OpLit, N: 1},
		{Op: api.OpSub, Kids: []int{1, 2}},
		{Op: api.OpHole, Name: "c"},
		{Op: api.OpVar, Name: "d"},
		{Op: api.OpMul, Kids: []int{4, 5}},
		{Op: api.OpNot, Kids: []int{6}},
		{Op: api.OpIf, Kids: []int{0, 3, 7}},
	}
	if s, e := show.Show(l); s != "a ? b - 1 : ~(@c * d)" || e != api.OK {
		t.Errorf("Show: %q, %d", s, e)
	}
	if s, e := show.Lisp(l); s != "(if a (sub b 1) (not (mul @c d)))" || e != api.OK {
		t.Errorf("Lisp: %q, %d", s, e)
	}
	empty := []api.Node{{Op: api.OpVar, Name: "a", Kids: []int{}}, {Op: api.OpNeg, Kids: []int{0}}}
	if s, e := show.Show(empty); s != "-a" || e != api.OK {
		t.Errorf("Show: %q, %d", s, e)
	}
}
