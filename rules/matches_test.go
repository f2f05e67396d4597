package rules_test

import (
	"fmt"
	"math"
	"math/rand"
	"slices"
	"strings"
	"testing"

	"sorrel/api"
	"sorrel/facts"
	"sorrel/graph"
	"sorrel/match"
	"sorrel/picture"
	"sorrel/rules"
)

// P17.5

const allRules = 1<<44 - 1

// sameMatches tells whether two lists of matches are the same.
func sameMatches(a, b []api.Match) bool {
	return slices.EqualFunc(a, b, func(x, y api.Match) bool {
		return x.Rule == y.Rule && x.Class == y.Class && slices.Equal(x.Holes, y.Holes)
	})
}

// finds holds that Matches answers matches.
func finds(t *testing.T, p api.Picture, mask uint64, want ...api.Match) {
	t.Helper()
	if l, bad := rules.Matches(p, mask); !sameMatches(l, want) || bad != api.OK {
		t.Fatalf("Matches(%.3000s, %b): %v, %d, want %v", drawing(p), mask, l[:min(len(l), 50)], bad, want[:min(len(want), 50)])
	}
}

// counts holds how many matches Matches answers; beside an error there are none.
func counts(t *testing.T, what string, p api.Picture, mask uint64, want int, wantBad api.Errno) {
	t.Helper()
	if l, bad := rules.Matches(p, mask); len(l) != want || bad != wantBad {
		t.Errorf("Matches(%b), %s: %d matches, %d, want %d, %d", mask, what, len(l), bad, want, wantBad)
	}
}

// bits is the mask of rules by their names.
func bits(names ...string) uint64 {
	var mask uint64
	for _, name := range names {
		mask |= 1 << named(name).number
	}
	return mask
}

func TestMatchesExamples(t *testing.T) {
	p := told(t, "x + 0")
	finds(t, p, allRules, api.Match{Rule: 0, Class: 2, Holes: []int{1, 0}}, api.Match{Rule: 4, Class: 2, Holes: []int{1}})
	finds(t, p, bits("add-zero"), api.Match{Rule: 4, Class: 2, Holes: []int{1}})
	finds(t, p, allRules&^bits("add-comm", "add-zero"))
}

// TestMatchesOfEveryRule: each stands where its left side is, with the classes of its parts.
func TestMatchesOfEveryRule(t *testing.T) {
	for _, r := range rows() {
		parts := []string{"u * 7", "9", "v - w"}[:len(r.holes())]
		if len(r.sides) > 0 {
			// What sides ask for, they have.
			parts = []string{"5", "9", "6"}[:len(r.holes())]
		}
		left := r.with(r.left, parts...)
		p := told(t, left)
		want := api.Match{Rule: r.number, Class: home(t, p, left)}
		for _, part := range parts {
			want.Holes = append(want.Holes, home(t, p, part))
		}
		l, bad := rules.Matches(p, 1<<r.number)
		if bad != api.OK || !slices.ContainsFunc(l, func(m api.Match) bool { return sameMatches([]api.Match{m}, []api.Match{want}) }) {
			t.Errorf("%s: %v, %d, want %v", r.name, l, bad, want)
		}
		held(t, p)
	}
}

// held holds Matches, of all rules and of each alone, against the second reckoning and against what match and facts say; it answers all matches, and how many each rule's sides forbid.
func held(t *testing.T, p api.Picture) (all []api.Match, forbidden [44]int) {
	t.Helper()
	known, _ := facts.Classes(p)
	for i, r := range rows() {
		matches, no := r.stands(t, p)
		forbidden[i] = no
		finds(t, p, 1<<i, matches...)
		var others []api.Match
		found, _ := match.Find(pat(t, r.left), p)
		for _, m := range found {
			var of []api.Fact
			for _, c := range m.Holes {
				of = append(of, known[c])
			}
			if ok, _ := rules.Holds(i, of); ok {
				m.Rule = i
				others = append(others, m)
			}
		}
		if !sameMatches(matches, others) {
			t.Fatalf("the reckonings do not agree: %s, %s: %v, %v", r.name, drawing(p), matches, others)
		}
		all = append(all, matches...)
	}
	finds(t, p, allRules, all...)
	return all, forbidden
}

// TestRandomPictures: against the second reckoning, with random masks, too.
func TestRandomPictures(t *testing.T) {
	r := rand.New(rand.NewSource(1731))
	var stood, forbidden [44]int
	for pictures := 0; pictures < 220; {
		p := chance(t, r, rows()[pictures%44])
		if len(p.Classes) > 12 {
			continue
		}
		pictures++
		all, no := held(t, p)
		for i, n := range no {
			forbidden[i] += n
		}
		for _, m := range all {
			stood[m.Rule]++
		}
		for range 5 {
			mask := r.Uint64() & r.Uint64()
			finds(t, p, mask, chosen(all, mask)...)
		}
	}
	for i, rule := range rows() {
		if stood[i] == 0 || forbidden[i] == 0 && len(rule.sides) > 0 {
			t.Errorf("%s: %d matches, %d forbidden", rule.name, stood[i], forbidden[i])
		}
	}
}

// chosen is the matches whose rules a mask has.
func chosen(all []api.Match, mask uint64) []api.Match {
	return slices.DeleteFunc(slices.Clone(all), func(m api.Match) bool { return mask&(1<<m.Rule) == 0 })
}

// TestMasks: none, each rule alone, all but one, and bits from 44 on.
func TestMasks(t *testing.T) {
	p := told(t, "(x + 0) * 1 - (x + 0) * 1", "~~x & (x | y)", "x ^ x", "7 % 1 == 7 / 7", "y << 2", "y = -(-y)")
	all, _ := held(t, p)
	if len(all) < 20 {
		t.Fatalf("%d matches alone", len(all))
	}
	finds(t, p, 0)
	finds(t, p, math.MaxUint64, all...)
	for bit := range 64 {
		mask := uint64(1) << bit
		finds(t, p, mask, chosen(all, mask)...)
		finds(t, p, ^mask, chosen(all, ^mask)...)
		finds(t, p, allRules^mask, chosen(all, allRules^mask)...)
		if bit >= 44 {
			finds(t, p, mask)
			finds(t, p, mask|bits("add-comm"), chosen(all, 1)...)
		}
	}
	finds(t, p, ^uint64(allRules))
}

// TestOrderOfMatches: rule by rule, rising; each rule's by their classes, then by their holes.
func TestOrderOfMatches(t *testing.T) {
	p := told(t, "z + x", "y = z + x", "y = x + z", "y = x + x", "x * 2 + (x + 2)")
	x, y, z, two := home(t, p, "x"), home(t, p, "y"), home(t, p, "z"), home(t, p, "2")
	product, sum := home(t, p, "x * 2"), home(t, p, "x + 2")
	whole := home(t, p, "x * 2 + (x + 2)")
	finds(t, p, bits("twice", "add-comm", "shift", "mul-comm"),
		api.Match{Rule: 0, Class: y, Holes: []int{x, x}},
		api.Match{Rule: 0, Class: y, Holes: []int{x, z}},
		api.Match{Rule: 0, Class: y, Holes: []int{z, x}},
		api.Match{Rule: 0, Class: sum, Holes: []int{x, two}},
		api.Match{Rule: 0, Class: whole, Holes: []int{product, sum}},
		api.Match{Rule: 2, Class: product, Holes: []int{x, two}},
		api.Match{Rule: 14, Class: y, Holes: []int{x}},
		api.Match{Rule: 15, Class: product, Holes: []int{x}},
	)
}

// TestSidesOfClasses: what is known of the holes' classes decides, by whatever they have.
func TestSidesOfClasses(t *testing.T) {
	for _, c := range []struct {
		rule  string
		lines string
		want  int
	}{
		{"sub-self", "x / y - x / y", 0}, {"sub-self", "x / y - x / y;x / y = z", 1}, {"sub-self", "x / 2 - x / 2", 1}, {"sub-self", "x - x", 1},
		{"sub-self", "x / y - x / y;y = 3", 1}, {"sub-self", "x / y - x / y;y = 0", 0}, {"sub-self", "x / y - x / y;y = 7 - 5", 1},
		{"mul-zero", "1 / x * 0", 0}, {"mul-zero", "x * 0", 1}, {"mul-zero", "1 / x * 0;x = -1", 1}, {"mul-zero", "x % 0 * (2 - 2);0 = 2 - 2;x % 0 = y", 1},
		{"unshift", "x << y", 0}, {"unshift", "x << 3", 1}, {"unshift", "x << y;y = 3", 1}, {"unshift", "x << (1 + 2)", 1}, {"unshift", "x << 0", 1}, {"unshift", "x / y << (1 << 2)", 2},
		{"div-self", "x / x", 0}, {"div-self", "0 / 0", 0}, {"div-self", "5 / 5", 1}, {"div-self", "x / x;x = -2", 1}, {"div-self", "x / x;x = 3 - 3", 0},
		{"div-rem", "x / y * y + x % y", 0}, {"div-rem", "x / 3 * 3 + x % 3", 1}, {"div-rem", "x / 0 * 0 + x % 0", 0}, {"div-rem", "x / y * y + x % y;y = 1 - 2", 1},
		{"if-true", "2 ? x : y", 1}, {"if-true", "0 ? x : y", 0}, {"if-true", "z ? x : y", 0}, {"if-true", "2 ? x : 1 / y", 0}, {"if-true", "2 ? 1 / x : y", 1}, {"if-true", "z ? x : y;z = 9", 1},
		{"if-false", "0 ? x : y", 1}, {"if-false", "0 ? 1 / x : y", 0}, {"if-false", "0 ? x : 1 / y", 1}, {"if-false", "1 - 1 ? x : y", 0}, {"if-false", "1 - 1 ? x : y;0 = 1 - 1", 1},
		{"if-same", "x ? y : y", 1}, {"if-same", "1 / x ? y : y", 0}, {"if-same", "x ? 1 / y : 1 / y", 1}, {"absorb", "x & (x | 1 / y)", 0}, {"absorb", "1 / x & (1 / x | y)", 1},
		{"eq-self", "x / y == x / y", 0}, {"lt-self", "x / y < x / y", 0}, {"xor-self", "x % y ^ x % y", 0}, {"and-zero", "x / y & 0", 0}, {"rem-one", "x % y % 1", 0},
	} {
		p := told(t, strings.Split(c.lines, ";")...)
		counts(t, c.rule+" in "+c.lines, p, bits(c.rule), c.want, api.OK)
		held(t, p)
	}
}

func TestMatchesOfNothing(t *testing.T) {
	for _, p := range []api.Picture{{}, {Classes: []api.Class{}, Roots: []int{}}} {
		for bit := range 64 {
			finds(t, p, 1<<bit)
		}
		finds(t, p, 0)
		finds(t, p, allRules)
		finds(t, p, math.MaxUint64)
	}
	// The roots have no part in it.
	p := told(t, "x + 0")
	p.Roots = nil
	counts(t, "without roots", p, allRules, 2, api.OK)
	p.Roots = []int{0, 0, 1}
	counts(t, "with other roots", p, allRules, 2, api.OK)
}

// base is a sound picture of several kinds of classes, some of them in cycles.
func base() api.Picture {
	return api.Picture{
		Classes: []api.Class{
			sized(1, lit(-1)),
			sized(1, lit(0), lit(4)),
			sized(1, vari("a"), vari("b"), do(api.OpAdd, 2, 1)),
			sized(1, vari("é")),
			sized(2, do(api.OpNeg, 0)),
			sized(2, do(api.OpNot, 3)),
			sized(3, do(api.OpMul, 2, 1), do(api.OpAnd, 3, 0)),
			sized(3, do(api.OpDiv, 2, 3)),
		},
		Roots: []int{6, 0, 6},
	}
}

// spoils is ways in which base can fail to be sound.
func spoils() map[string]func(p *api.Picture) {
	const last = 7
	more := func(c int, n ...api.Node) func(p *api.Picture) {
		return func(p *api.Picture) { p.Classes[c].Nodes = append(p.Classes[c].Nodes, n...) }
	}
	behind := func(c api.Class) func(p *api.Picture) {
		return func(p *api.Picture) { p.Classes = append(p.Classes, c) }
	}
	size := func(c, size int) func(p *api.Picture) {
		return func(p *api.Picture) { p.Classes[c].Size = size }
	}
	return map[string]func(p *api.Picture){
		"a class without nodes":             behind(api.Class{Size: 9}),
		"op 0":                              more(last, api.Node{}),
		"an operator below all":             more(last, api.Node{Op: -1}),
		"an operator above all":             more(last, do(19, 0)),
		"a hole":                            more(last, api.Node{Op: api.OpHole, Name: "a"}),
		"a literal with a kid":              more(last, api.Node{Op: api.OpLit, N: 5, Kids: []int{0}}),
		"a sum of one":                      more(last, do(api.OpAdd, 0)),
		"a choice of two":                   more(last, do(api.OpIf, 0, 0)),
		"kid -1":                            more(last, do(api.OpNot, -1)),
		"a kid behind the last class":       more(last, do(api.OpNot, last+1)),
		"a kid far above":                   more(last, do(api.OpRem, 0, math.MaxInt)),
		"root -1":                           func(p *api.Picture) { p.Roots = []int{-1} },
		"a root behind the last class":      func(p *api.Picture) { p.Roots = []int{0, last + 1} },
		"an operator with N":                more(last, api.Node{Op: api.OpNot, N: 1, Kids: []int{0}}),
		"an operator with a name":           more(last, api.Node{Op: api.OpNot, Name: "a", Kids: []int{0}}),
		"a variable that is a number":       more(3, vari("3")),
		"a node twice":                      more(last, do(api.OpDiv, 2, 3)),
		"a node in two classes":             more(last, do(api.OpNot, 3)),
		"a class of itself alone":           behind(sized(9, do(api.OpNeg, last+1))),
		"Size 0":                            size(0, 0),
		"a Size that is too small":          size(6, 2),
		"a Size that is too great":          size(last, 4),
		"Size MaxSize":                      size(last, api.MaxSize),
		"nodes about":                       func(p *api.Picture) { slices.Reverse(p.Classes[6].Nodes) },
		"two classes about":                 func(p *api.Picture) { slices.Reverse(p.Classes[:2]) },
		"a million classes":                 func(p *api.Picture) { p.Classes = make([]api.Class, 1<<20) },
		"classes without nodes, and a root": func(p *api.Picture) { *p = api.Picture{Roots: []int{0}} },
	}
}

// TestMatchesOfWhatIsNotSound: with any mask, also where no rule is chosen.
func TestMatchesOfWhatIsNotSound(t *testing.T) {
	counts(t, "base", base(), allRules, 9, api.OK)
	held(t, base())
	for what, spoil := range spoils() {
		p := base()
		spoil(&p)
		if picture.Check(p) != api.ErrForm {
			t.Fatalf("%s: the picture is sound", what)
		}
		for _, mask := range []uint64{0, 1, bits("mul-zero"), allRules, 1 << 50, math.MaxUint64} {
			counts(t, what, p, mask, 0, api.ErrForm)
		}
	}
	// What is not sound is told ahead of what is too much.
	p := crowd(90, 0, api.OpAdd, 8000, false)
	counts(t, "8000 sums", p, allRules, 0, api.ErrLarge)
	p.Roots = []int{-1}
	counts(t, "8000 sums", p, allRules, 0, api.ErrForm)
}

// crowd is a picture of so many variables, literals ahead of them, and so many nodes of one operator over two variables, or over a variable and a literal where the right one is that; all in one class, or each in its own.
func crowd(variables, literals, op, many int, apart bool) api.Picture {
	var p api.Picture
	for i := range literals {
		p.Classes = append(p.Classes, sized(1, lit(int64(i))))
	}
	for i := range variables {
		p.Classes = append(p.Classes, sized(1, vari("x"+string([]rune{'a' + rune(i/26), 'a' + rune(i%26)}))))
	}
	all := literals + variables
	var nodes []api.Node
	for i := range many {
		nodes = append(nodes, do(op, literals+i/all, i%all))
	}
	if !apart {
		p.Classes = append(p.Classes, sized(3, nodes...))
		return p
	}
	for _, n := range nodes {
		p.Classes = append(p.Classes, sized(3, n))
	}
	return p
}

// TestMaxMatches: just MaxMatches, and one more, in one class and in many.
func TestMaxMatches(t *testing.T) {
	for _, apart := range []bool{false, true} {
		for many, bad := range map[int]api.Errno{599: api.OK, 600: api.OK, 601: api.ErrLarge, 1000: api.ErrLarge} {
			want := many
			if bad != api.OK {
				want = 0
			}
			p := crowd(40, 0, api.OpAdd, many, apart)
			counts(t, "sums", p, bits("add-comm"), want, bad)
			counts(t, "sums, and others", p, bits("add-comm", "sub-add", "add-zero", "mul-comm"), want, bad)
			counts(t, "sums, not looked for", p, allRules&^bits("add-comm", "twice"), 0, api.OK)
			// Each 41st node is of one class with itself.
			counts(t, "doubles", p, bits("twice"), (many+40)/41, api.OK)
		}
	}
}

// TestMaxMatchesOfSeveralRules: what counts is all of them together.
func TestMaxMatchesOfSeveralRules(t *testing.T) {
	for many, bad := range map[int]api.Errno{300: api.OK, 301: api.ErrLarge} {
		p := crowd(40, 0, api.OpSub, 300, false)
		sums := crowd(40, 0, api.OpAdd, many, false)
		last := &p.Classes[len(p.Classes)-1]
		last.Nodes = append(slices.Clone(sums.Classes[len(sums.Classes)-1].Nodes), last.Nodes...)
		want := 600
		if bad != api.OK {
			want = 0
		}
		counts(t, "sums", p, bits("add-comm"), many, api.OK)
		counts(t, "differences", p, bits("sub-add"), 300, api.OK)
		counts(t, "both", p, bits("add-comm", "sub-add"), want, bad)
		counts(t, "both, the later ones none", p, bits("add-comm", "sub-add", "morgan"), want, bad)
		counts(t, "both, the earlier ones none", p, bits("sub-add", "add-comm", "add-zero"), want, bad)
	}
}

// TestEachRuleTips: whichever rule the last matches are of, all have to be counted.
func TestEachRuleTips(t *testing.T) {
	for _, r := range rows()[1:] {
		left := r.with(r.left, "5", "9", "6")
		alone := told(t, left)
		own, _ := rules.Matches(alone, 1<<r.number)
		sums, _ := rules.Matches(alone, bits("add-comm"))
		for _, more := range []int{0, 1} {
			g := graph.New()
			g.Add(read(t, left))
			for i := range api.MaxMatches - len(own) - len(sums) + more {
				g.Add(read(t, fmt.Sprintf("x%d + y%d", i%25, i/25)))
			}
			p := drawn(t, g)
			counts(t, r.name, p, 1<<r.number, len(own), api.OK)
			if more == 0 {
				counts(t, "just enough of "+r.name, p, bits("add-comm", r.name), api.MaxMatches, api.OK)
			} else {
				counts(t, "one more of "+r.name, p, bits("add-comm", r.name), 0, api.ErrLarge)
			}
		}
	}
}

// TestWhatSidesForbidDoesNotCount: MaxMatches is of what is answered, MaxFound of what is found ahead of the sides.
func TestWhatSidesForbidDoesNotCount(t *testing.T) {
	// Every row of 20 nodes has 15 shifts by a literal.
	for _, apart := range []bool{false, true} {
		counts(t, "100 shifts of 20", crowd(5, 15, api.OpShl, 100, apart), bits("unshift"), 75, api.OK)
	}
	forty := func(many int) api.Picture { return crowd(60, 15, api.OpShl, many, false) }
	counts(t, "40 rows of 75", forty(40*75), bits("unshift"), 600, api.OK)
	counts(t, "a further one", forty(40*75+1), bits("unshift"), 0, api.ErrLarge)
	counts(t, "39 rows of 75", forty(39*75+1), bits("unshift"), 39*15+1, api.OK)
	counts(t, "none of them", crowd(64, 0, api.OpShl, 4096, false), bits("unshift"), 0, api.OK)
}

// TestMaxFound: a left side that stands too often is too much, though the sides would leave nothing of it, and only if its rule is chosen.
func TestMaxFound(t *testing.T) {
	unshift := bits("unshift")
	for many, bad := range map[int]api.Errno{api.MaxFound: api.OK, api.MaxFound + 1: api.ErrLarge, 6000: api.ErrLarge} {
		p := crowd(80, 0, api.OpShl, many, false)
		if _, is := match.Find(pat(t, "@a << @n"), p); is != bad {
			t.Fatalf("%d shifts: %d", many, is)
		}
		counts(t, "one class", p, unshift, 0, bad)
		counts(t, "one class, all rules", p, allRules, 0, bad)
		counts(t, "one class, all others", p, math.MaxUint64&^unshift, 0, api.OK)
	}
	for many, bad := range map[int]api.Errno{4000: api.OK, 4096: api.OK, 4097: api.ErrLarge} {
		p := crowd(80, 0, api.OpShl, many, false)
		// The same nodes, some in each of two classes.
		last := len(p.Classes) - 1
		half := many / 2
		nodes := p.Classes[last].Nodes
		p.Classes[last].Nodes = nodes[:half:half]
		p.Classes = append(p.Classes, sized(3, nodes[half:]...))
		counts(t, "two classes", p, unshift, 0, bad)
		counts(t, "two classes, all rules", p, allRules, 0, bad)
		counts(t, "two classes, all others", p, allRules&^unshift, 0, api.OK)
	}
	// A sum of each with each of so many that the rule with three holes finds too much, and those with two do not.
	p := crowd(25, 0, api.OpAdd, 600, false)
	sums := len(p.Classes) - 1
	p.Classes = append(p.Classes, sized(5, do(api.OpAdd, 1, sums), do(api.OpMul, 2, sums), do(api.OpMul, 3, sums)))
	counts(t, "no rule", p, 0, 0, api.OK)
	counts(t, "sums in products", p, bits("spread"), 0, api.ErrLarge)
	counts(t, "sums of sums", p, bits("add-assoc"), 0, api.OK)
	for k := range 7 {
		p.Classes[sums+1].Nodes = append(p.Classes[sums+1].Nodes, do(api.OpMul, 4+k, sums))
	}
	if _, bad := match.Find(pat(t, "@a * (@b + @c)"), p); bad != api.ErrLarge {
		t.Fatal(bad)
	}
	counts(t, "too many products", p, bits("spread"), 0, api.ErrLarge)
	counts(t, "too many products, and a side", p, bits("spread", "unshift"), 0, api.ErrLarge)
	counts(t, "products, spread not chosen", p, bits("mul-comm", "gather", "shift"), 9, api.OK)
}
