package rules_test

import (
	"fmt"
	"math"
	"math/rand"
	"slices"
	"strings"
	"testing"

	"sorrel/api"
	"sorrel/expr"
	"sorrel/facts"
	"sorrel/graph"
	"sorrel/parse"
	"sorrel/pattern"
	"sorrel/picture"
	"sorrel/show"
)

// The second reckoning goes by the document's table as it is written there. What a rule makes of parts is read from texts in which the parts' own texts stand in the place of the holes'; where it stands is found by trying all classes in all holes.

// document is the table, as the document writes it.
const document = `
| 0 | add-comm | @a + @b | @b + @a | |
| 1 | add-assoc | (@a + @b) + @c | @a + (@b + @c) | |
| 2 | mul-comm | @a * @b | @b * @a | |
| 3 | mul-assoc | (@a * @b) * @c | @a * (@b * @c) | |
| 4 | add-zero | @a + 0 | @a | |
| 5 | mul-one | @a * 1 | @a | |
| 6 | mul-zero | @a * 0 | 0 | a Total |
| 7 | sub-self | @a - @a | 0 | a Total |
| 8 | sub-add | @a - @b | @a + -@b | |
| 9 | neg-neg | --@a | @a | |
| 10 | neg-mul | -@a | @a * -1 | |
| 11 | mul-neg | @a * -1 | -@a | |
| 12 | spread | @a * (@b + @c) | @a * @b + @a * @c | |
| 13 | gather | @a * @b + @a * @c | @a * (@b + @c) | |
| 14 | twice | @a + @a | @a * 2 | |
| 15 | shift | @a * 2 | @a << 1 | |
| 16 | unshift | @a << @n | @a * (1 << @n) | n Const |
| 17 | and-self | @a & @a | @a | |
| 18 | or-self | @a \| @a | @a | |
| 19 | xor-self | @a ^ @a | 0 | a Total |
| 20 | and-comm | @a & @b | @b & @a | |
| 21 | or-comm | @a \| @b | @b \| @a | |
| 22 | xor-comm | @a ^ @b | @b ^ @a | |
| 23 | and-zero | @a & 0 | 0 | a Total |
| 24 | and-ones | @a & -1 | @a | |
| 25 | or-zero | @a \| 0 | @a | |
| 26 | xor-zero | @a ^ 0 | @a | |
| 27 | not-not | ~~@a | @a | |
| 28 | morgan | ~(@a & @b) | ~@a \| ~@b | |
| 29 | xor-ones | @a ^ -1 | ~@a | |
| 30 | not-neg | ~@a | -@a - 1 | |
| 31 | div-one | @a / 1 | @a | |
| 32 | div-self | @a / @a | 1 | a Nonzero |
| 33 | rem-one | @a % 1 | 0 | a Total |
| 34 | div-rem | @a / @b * @b + @a % @b | @a | b Nonzero |
| 35 | eq-self | @a == @a | 1 | a Total |
| 36 | lt-self | @a < @a | 0 | a Total |
| 37 | eq-comm | @a == @b | @b == @a | |
| 38 | if-true | @c ? @a : @b | @a | c Nonzero, b Total |
| 39 | if-false | 0 ? @a : @b | @b | a Total |
| 40 | if-same | @c ? @a : @a | @a | c Total |
| 41 | absorb | @a & (@a \| @b) | @a | b Total |
| 42 | shl-zero | @a << 0 | @a | |
| 43 | shr-zero | @a >> 0 | @a | |
`

// row is a row of the table.
type row struct {
	number            int
	name, left, right string
	sides             []condition
}

// condition is what the table's last column says of a hole.
type condition struct{ hole, word string }

// rows is the table, row by row.
func rows() []row {
	var list []row
	for _, l := range strings.Split(strings.TrimSpace(document), "\n") {
		var cells []string
		for _, cell := range strings.Split(strings.ReplaceAll(l, `\|`, "OR"), "|") {
			cells = append(cells, strings.ReplaceAll(strings.TrimSpace(cell), "OR", "|"))
		}
		r := row{name: cells[2], left: cells[3], right: cells[4]}
		fmt.Sscan(cells[1], &r.number)
		for _, s := range strings.Split(cells[5], ", ") {
			if hole, word, some := strings.Cut(s, " "); some {
				r.sides = append(r.sides, condition{hole, word})
			}
		}
		list = append(list, r)
	}
	return list
}

// named is the row of a name.
func named(name string) row {
	all := rows()
	return all[slices.IndexFunc(all, func(r row) bool { return r.name == name })]
}

// holes is the names of a rule's holes, as they first stand in the left text: the parts of a node stand in it from the left, as in the list of nodes.
func (r row) holes() []string {
	var names []string
	for _, s := range strings.Split(r.left, "@")[1:] {
		if !slices.Contains(names, s[:1]) {
			names = append(names, s[:1])
		}
	}
	return names
}

// hold tells whether a rule's sides hold of facts, by its holes' numbers.
func (r row) hold(known []api.Fact) bool {
	for _, s := range r.sides {
		f := known[slices.Index(r.holes(), s.hole)]
		if s.word == "Total" && !f.Total || s.word != "Total" && !f.Const || s.word == "Nonzero" && f.N == 0 {
			return false
		}
	}
	return true
}

// with is one of a rule's texts with texts in the place of its holes.
func (r row) with(text string, parts ...string) string {
	for i, name := range r.holes() {
		text = strings.ReplaceAll(text, "@"+name, "("+parts[i]+")")
	}
	return text
}

// applied is what Apply has to answer of sound parts, as many as there are holes.
func (r row) applied(t *testing.T, back bool, parts [][]api.Node) (from, to []api.Node, bad api.Errno) {
	t.Helper()
	var texts []string
	var known []api.Fact
	for _, part := range parts {
		s, _ := show.Show(part)
		f, _ := facts.Of(part)
		texts, known = append(texts, s), append(known, f)
	}
	left, _, badLeft := parse.Parse(r.with(r.left, texts...))
	right, _, badRight := parse.Parse(r.with(r.right, texts...))
	for _, bad := range []api.Errno{badLeft, badRight} {
		if bad != api.OK && bad != api.ErrLarge {
			t.Fatalf("%s of %q: %d", r.name, texts, bad)
		}
	}
	switch {
	case badLeft != api.OK || badRight != api.OK:
		return nil, nil, api.ErrLarge
	case !r.hold(known):
		return nil, nil, api.ErrNone
	case back:
		return right, left, api.OK
	}
	return left, right, api.OK
}

// each calls a function with all lists of so many numbers below a limit, in order.
func each(many, below int, visit func(list []int)) {
	list := make([]int, many)
	for {
		visit(list)
		at := many - 1
		for at >= 0 && list[at] == below-1 {
			list[at] = 0
			at--
		}
		if at < 0 {
			return
		}
		list[at]++
	}
}

// stands is all that a rule has to match in a picture, and how often only its sides forbid it. Each class is given a name of its own, and a rule stands with some classes where the graph of the picture then represents what its left side is with their names.
func (r row) stands(t *testing.T, p api.Picture) (matches []api.Match, forbidden int) {
	t.Helper()
	g, _ := graph.Of(p)
	known, _ := facts.Classes(p)
	var names [][]api.Node
	for c := range p.Classes {
		least, _ := picture.Least(p, c)
		names = append(names, []api.Node{vari(fmt.Sprint("class", c))})
		if bad := g.Merge(names[c], least); bad != api.OK {
			t.Fatal(bad)
		}
	}
	left := pat(t, r.left)
	found := make([][]api.Match, len(p.Classes))
	each(len(r.holes()), len(p.Classes), func(list []int) {
		var parts [][]api.Node
		var of []api.Fact
		for _, c := range list {
			parts, of = append(parts, names[c]), append(of, known[c])
		}
		e, _ := pattern.Fill(left, parts)
		if is, _ := g.Has(e); !is {
			return
		}
		if !r.hold(of) {
			forbidden++
			return
		}
		home := slices.IndexFunc(names, func(name []api.Node) bool {
			same, _ := g.Same(name, e)
			return same
		})
		found[home] = append(found[home], api.Match{Rule: r.number, Class: home, Holes: slices.Clone(list)})
	})
	return slices.Concat(found...), forbidden
}

// edges is numbers at their ends, and others that are something to a rule.
var edges = []int64{0, 1, -1, 2, 3, -7, 63, 64, math.MinInt64, math.MaxInt64}

// arities is how many parts an operator has, by its number.
var arities = []int{0, 0, 0, 1, 1, 2, 2, 2, 2, 2, 2, 2, 2, 2, 2, 2, 2, 3}

func lit(n int64) api.Node                    { return api.Node{Op: api.OpLit, N: n} }
func vari(s string) api.Node                  { return api.Node{Op: api.OpVar, Name: s} }
func do(op int, kids ...int) api.Node         { return api.Node{Op: op, Kids: kids} }
func sized(size int, n ...api.Node) api.Class { return api.Class{Nodes: n, Size: size} }

// chanceExpr is a random sound expression over some leaves; nothing, if that is too large.
func chanceExpr(r *rand.Rand, leaves []api.Node, deep int) []api.Node {
	if deep == 1 || r.Intn(4) == 0 {
		return []api.Node{leaves[r.Intn(len(leaves))]}
	}
	op := api.OpNeg + r.Intn(api.OpIf-api.OpNeg+1)
	var parts [][]api.Node
	for range arities[op] {
		parts = append(parts, chanceExpr(r, leaves, deep-1))
	}
	e, _ := expr.Make(op, 0, "", parts...)
	return e
}

// chancePart is a random expression, a small one often; many are constants, many never trap.
func chancePart(r *rand.Rand) []api.Node {
	var numbers []api.Node
	for _, n := range edges {
		numbers = append(numbers, lit(n))
	}
	names := []api.Node{vari("x"), vari("y"), vari("é₂")}
	leaves := [][]api.Node{numbers, names, append(names, numbers...)}[r.Intn(3)]
	return chanceExpr(r, leaves, 1+r.Intn(3))
}

// chanceParts is so many of these.
func chanceParts(r *rand.Rand, many int) [][]api.Node {
	var parts [][]api.Node
	for range many {
		parts = append(parts, chancePart(r))
	}
	return parts
}

// chance is a random sound picture in which a rule's left side, and that of some others, stand over few leaves, some of them equal to their right sides or to a leaf.
func chance(t *testing.T, r *rand.Rand, rule row) api.Picture {
	t.Helper()
	leaves := []string{"0", "1", "2", "-1", "x", "y", "x / y", "x / y", "y % x", "7 - 7"}
	leaf := func() string { return leaves[r.Intn(len(leaves))] }
	g := graph.New()
	all := rows()
	for range 1 + r.Intn(3) {
		parts := []string{leaf(), leaf(), leaf()}
		left, other := rule.with(rule.left, parts...), rule.with(rule.right, parts...)
		if r.Intn(2) == 0 {
			other = leaf()
		}
		bad := g.Add(read(t, left))
		if r.Intn(2) == 0 {
			bad = g.Merge(read(t, left), read(t, other))
		}
		if bad != api.OK {
			t.Fatal(bad)
		}
		rule = all[r.Intn(len(all))]
	}
	return drawn(t, g)
}

// long is an expression of just so many nodes: negations of a constant that is not zero.
func long(size int) []api.Node {
	e := []api.Node{lit(3)}
	for len(e) < size {
		e = append(e, do(api.OpNeg, len(e)-1))
	}
	return e
}

// pat is the pattern that a text writes.
func pat(t *testing.T, s string) []api.Node {
	t.Helper()
	p, at, bad := parse.Pattern(s)
	if bad != api.OK {
		t.Fatalf("Pattern(%q): %d at %d", s, bad, at)
	}
	return p
}

// read is the expression that a text writes.
func read(t *testing.T, s string) []api.Node {
	t.Helper()
	e, at, bad := parse.Parse(s)
	if bad != api.OK {
		t.Fatalf("Parse(%q): %d at %d", s, bad, at)
	}
	return e
}

// reads is the expressions that texts write.
func reads(t *testing.T, texts ...string) [][]api.Node {
	t.Helper()
	var list [][]api.Node
	for _, s := range texts {
		list = append(list, read(t, s))
	}
	return list
}

// told is the picture of expressions, each a root; = between two: they are merged.
func told(t *testing.T, lines ...string) api.Picture {
	t.Helper()
	g := graph.New()
	for _, s := range lines {
		a, b, merged := strings.Cut(s, " = ")
		if !merged {
			b = a
		}
		if g.Merge(read(t, a), read(t, b)) != api.OK || !merged && g.Add(read(t, a)) != api.OK {
			t.Fatal(s)
		}
	}
	return drawn(t, g)
}

// drawn is the picture of a graph.
func drawn(t *testing.T, g *graph.Graph) api.Picture {
	t.Helper()
	p, bad := g.Picture()
	if bad != api.OK {
		t.Fatalf("Picture: %d", bad)
	}
	return p
}

// home is the class of an expression.
func home(t *testing.T, p api.Picture, s string) int {
	t.Helper()
	c, bad := picture.Class(p, read(t, s))
	if bad != api.OK {
		t.Fatalf("%s: %d", s, bad)
	}
	return c
}

// text tells lists of nodes apart, node by node; an empty list of kids is the same as none.
func text(lists ...[]api.Node) string {
	var s strings.Builder
	for _, l := range lists {
		for _, n := range l {
			fmt.Fprintf(&s, "%d %d %q %v; ", n.Op, n.N, n.Name, n.Kids)
		}
		s.WriteString("\n")
	}
	return s.String()
}

// drawing is a picture, written out.
func drawing(p api.Picture) string {
	var s strings.Builder
	for c, class := range p.Classes {
		fmt.Fprintf(&s, "%d: %ssize %d; ", c, text(class.Nodes), class.Size)
	}
	return s.String() + fmt.Sprint(p.Roots)
}
