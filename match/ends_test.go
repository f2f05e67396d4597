package match_test

import (
	"fmt"
	"math/rand"
	"slices"
	"testing"

	"sorrel/api"
	"sorrel/match"
)

// R8: pictures in which a pattern has so many ways to stand in part that nobody could follow each by itself.

// literals is so many classes of one literal each.
func literals(many int) api.Picture {
	var p api.Picture
	for i := range many {
		p.Classes = append(p.Classes, class(lit(int64(i))))
	}
	return p
}

// put puts a class behind those of a picture, and tells its number.
func put(p *api.Picture, size int, nodes ...api.Node) int {
	p.Classes = append(p.Classes, sized(size, nodes...))
	return len(p.Classes) - 1
}

// counts asks At, where it has to answer so many lists.
func counts(t *testing.T, with []api.Node, p api.Picture, class, want int) {
	t.Helper()
	if l, bad := match.At(with, p, class); len(l) != want || bad != api.OK {
		t.Errorf("At(%v, %d): %d lists, %d, want %d", with, class, len(l), bad, want)
	}
}

// TestManyAndThenNone: what one part forbids is not found, however often all others stand.
func TestManyAndThenNone(t *testing.T) {
	p := rich(60)
	product := put(&p, 7, do(api.OpMul, 60, 60))
	top := put(&p, 15, do(api.OpMul, product, product))
	var one, behind [][]int
	for c := range 60 {
		one, behind = append(one, []int{c}), append(behind, []int{0, c})
	}
	for s, want := range map[string]string{
		"((@a + @b) * (@c + @d)) * ((@e + @f) * (@a + u))":          "[]",
		"((@a + @b) * (@c + @d)) * ((@e + @f) * (xaa * @b))":        "[]",
		"((@a + @b) * (@c + @d)) * ((@e + @f) * -@a)":               "[]",
		"(-@a * (@c + @d)) * ((@e + @f) * (@b + @a))":               "[]",
		"((xab + xac) * (@a + xad)) * ((xae + xaf) * (xag + @a))":   fmt.Sprint(one),
		"((xab + xac) * (@a + xad)) * ((xae + @b) * (@b + xaa))":    "",
		"((xab + @a) * (@a + @a)) * ((xaa + @b) * (@a + xaa))":      "",
		"((xab + xac) * (xaa + xad)) * ((xae + xaf) * (xag + xah))": "[[]]",
	} {
		if want != "" {
			finds(t, pat(t, s), p, top, want)
		} else {
			counts(t, pat(t, s), p, top, 3600)
		}
	}
	for _, s := range []string{"((@a + @b) * (@c + @d)) * ((@e + @f) * (@a + @b))", "((@a + @b) * (@b + @a)) * ((@a + @b) * (@c + @a))", "((@a + @b) * (@c + @d)) * @e"} {
		fails(t, s, pat(t, s), p, top, api.ErrLarge, api.ErrLarge)
	}
	counts(t, pat(t, "(@a * @b) * ((@c + @d) * @b)"), p, top, 3600)
	finds(t, pat(t, "(@a * @b) * (@b * @c)"), p, top, "[[60 60 60]]")
	// All sums that are left have xaa in front.
	p.Classes[60].Nodes = p.Classes[60].Nodes[:60]
	finds(t, pat(t, "((xaa + @a) * (xaa + xaa)) * ((xaa + xaa) * (xaa + xaa))"), p, top, fmt.Sprint(one))
	finds(t, pat(t, "((@b + @a) * (@b + @b)) * ((@b + @b) * (@b + @b))"), p, top, fmt.Sprint(behind))
}

// chain is a picture of sums, each of a literal and the next sum, with all of so many literals on each of so many levels. There are two lines of them: what is of one parity at the top leads to the line that ends with the literals of that parity, if fits says so, else with those of the other.
func chain(many, levels int, fits bool) (api.Picture, int) {
	p := literals(many)
	var below [2]int
	for line := range below {
		var nodes []api.Node
		for first := line; first < many; first += 2 {
			nodes = append(nodes, do(api.OpAdd, first, (first*7+3)%many))
		}
		below[line] = put(&p, 3, nodes...)
	}
	for level := range levels {
		for line := range below {
			var nodes []api.Node
			for i := range many {
				nodes = append(nodes, do(api.OpAdd, i, below[line]))
			}
			below[line] = put(&p, 5+2*level, nodes...)
		}
	}
	var nodes []api.Node
	for i := range many {
		line := i % 2
		if !fits {
			line = 1 - line
		}
		nodes = append(nodes, do(api.OpAdd, i, below[line]))
	}
	return p, put(&p, 5+2*levels, nodes...)
}

// TestChains: what is taken at the top has to be taken at the bottom again, behind many levels that have nothing to do with it.
func TestChains(t *testing.T) {
	for _, s := range []string{"@a+(@b+(@c+(@d+(@e+(@f+(@a+@b))))))", "@a+(@b+(@c+(@d+(@e+(@b+(@a+@b))))))", "@a+(@b+(@c+(@b+(@d+(@d+(@a+@b))))))"} {
		p, top := chain(600, 5, false)
		finds(t, pat(t, s), p, top, "[]")
		findsAll(t, pat(t, s), p, nil)
		p, top = chain(600, 5, true)
		fails(t, s, pat(t, s), p, top, api.ErrLarge, api.ErrLarge)
	}
	p, top := chain(600, 1, false)
	finds(t, pat(t, "@a+(@b+(@a+@c))"), p, top, "[]")
	p, top = chain(600, 1, true)
	fails(t, "360000 lists", pat(t, "@a+(@b+(@a+@c))"), p, top, api.ErrLarge, api.ErrLarge)
	fails(t, "180000 lists", pat(t, "@a+(@b+(@b+@c))"), p, top, api.ErrLarge, api.ErrLarge)
	for _, s := range []string{"@a+(@a+(@a+@b))", "@a+(@b+(@a+@b))", "@a+(7+(@a+@b))"} {
		counts(t, pat(t, s), p, top, 600)
	}
	finds(t, pat(t, "@a+(@a+(@a+@a))"), p, top, "[]")
}

// TestTriangles: sums of an even and an odd number alone, so that no three of them close.
func TestTriangles(t *testing.T) {
	const many = 120
	p := literals(many)
	var nodes []api.Node
	for a := range many {
		for b := range many {
			if (a+b)%2 == 1 {
				nodes = append(nodes, do(api.OpAdd, a, b))
			}
		}
	}
	sums := put(&p, 3, nodes...)
	top := put(&p, 10, do(api.OpIf, sums, sums, sums))
	finds(t, pat(t, "@a + @b ? @b + @c : @c + @a"), p, top, "[]")
	findsAll(t, pat(t, "@a + @b ? @c + @b : @a + @c"), p, nil)
	fails(t, "a path", pat(t, "@a + @b ? @b + @c : @c + @d"), p, top, api.ErrLarge, api.ErrLarge)
	fails(t, "there and back", pat(t, "@a + @b ? @b + @c : @b + @a"), p, top, api.ErrLarge, api.ErrLarge)
	counts(t, pat(t, "@a + @b ? @b + 7 : 7 + @b"), p, top, 3600)
	counts(t, pat(t, "@a + 4 ? @a + 6 : 8 + @a"), p, top, 60)
	nodes = slices.Insert(nodes, slices.IndexFunc(nodes, func(n api.Node) bool { return slices.Compare(n.Kids, []int{5, 7}) > 0 }), do(api.OpAdd, 5, 7))
	p.Classes[sums].Nodes = nodes
	counts(t, pat(t, "@a + @b ? @b + @c : @c + @a"), p, top, 3*60)
}

// TestOneAfterTheOther: each row that can't hold is seen to only when the one ahead of it is gone.
func TestOneAfterTheOther(t *testing.T) {
	const many = 1300
	p := literals(many)
	for i := range many {
		put(&p, 2, do(api.OpNeg, i))
	}
	for i := range many {
		put(&p, 2, do(api.OpNot, i))
	}
	var nodes []api.Node
	for i := range many - 1 {
		nodes = append(nodes, do(api.OpMul, many+i, 2*many+i+1))
	}
	put(&p, 5, nodes...)
	findsAll(t, pat(t, "-@a * ~@a"), p, nil)
	last := &p.Classes[len(p.Classes)-1]
	last.Nodes = append(last.Nodes, do(api.OpMul, 2*many-1, 3*many-1))
	findsAll(t, pat(t, "-@a * ~@a"), p, []api.Match{{Class: len(p.Classes) - 1, Holes: []int{many - 1}}})
}

// dense is a picture of literals and of variables that have so many random nodes beside them.
func dense(r *rand.Rand, literal, variable, nodes int) api.Picture {
	p := literals(literal)
	for i := range variable {
		p.Classes = append(p.Classes, class(vari(fmt.Sprintf("x%c%c", 'a'+i/26, 'a'+i%26))))
	}
	used := map[key]bool{}
	for range nodes {
		n := do([]int{api.OpAdd, api.OpAdd, api.OpAdd, api.OpMul, api.OpIf}[r.Intn(5)])
		var kids []int
		for i := range arities[n.Op] {
			kids, n.Kids = append(kids, r.Intn(literal+variable)), append(n.Kids, i)
		}
		c := &p.Classes[literal+r.Intn(variable)]
		if k := keyOf(n, kids); !used[k] {
			used[k] = true
			c.Nodes = append(c.Nodes, do(n.Op, kids...))
		}
	}
	for _, c := range p.Classes {
		slices.SortFunc(c.Nodes, func(a, b api.Node) int {
			return slices.Compare(append([]int{a.Op}, a.Kids...), append([]int{b.Op}, b.Kids...))
		})
	}
	return p
}

// TestDense: pictures with so many nodes that a part stands almost anywhere, against the second reckoning.
func TestDense(t *testing.T) {
	r := rand.New(rand.NewSource(1621))
	for _, c := range []struct{ literal, variable, nodes int }{{20, 100, 7500}, {3, 60, 7900}, {90, 10, 3000}} {
		p := dense(r, c.literal, c.variable, c.nodes)
		for _, s := range []string{"@b + @a + (@b + @c) + (@a + @b + (@a + @c))", "@a + (@b + @c) + (@c + @a + @c * @b)", "@c ? @a + @b : (@b ? @a : @c)", "@a * (@a + @b) + @c"} {
			with := pat(t, s)
			var want []api.Match
			for c, lists := range standing(with, p) {
				for _, l := range lists {
					want = append(want, api.Match{Class: c, Holes: l})
				}
			}
			if len(want) > api.MaxFound {
				fails(t, s, with, p, -1, api.ErrArg, api.ErrLarge)
				continue
			}
			findsAll(t, with, p, want)
			for range 5 {
				home := r.Intn(len(p.Classes))
				counts(t, with, p, home, len(slices.DeleteFunc(slices.Clone(want), func(m api.Match) bool { return m.Class != home })))
			}
		}
	}
}

// round is a picture of numbers that wrap round at many: each class has all sums and products that come to its number.
func round(many int) api.Picture {
	p := literals(many)
	for a := range many {
		for b := range many {
			sum := &p.Classes[(a+b)%many]
			sum.Nodes = append(sum.Nodes, do(api.OpAdd, a, b))
		}
	}
	for a := range many {
		for b := range many {
			product := &p.Classes[a*b%many]
			product.Nodes = append(product.Nodes, do(api.OpMul, a, b))
		}
	}
	return p
}

// TestRound: every pattern of sums and products stands with whatever is in its holes.
func TestRound(t *testing.T) {
	const many = 63
	p := round(many)
	for s, comes := range map[string]func(a, b, c int) int{
		"@a + @b * @c":                                    func(a, b, c int) int { return a + b*c },
		"(@a + @b) * @c + @a":                             func(a, b, c int) int { return (a+b)*c + a },
		"@a * @a + @b * @b + @c * @c":                     func(a, b, c int) int { return a*a + b*b + c*c },
		"(@a + 1) * (@b + 2) * (@c + 3)":                  func(a, b, c int) int { return (a + 1) * (b + 2) * (c + 3) },
		"@a + (@b + (@c + (@a + (@b + (@c + (@a*@b))))))": func(a, b, c int) int { return 2*a + 2*b + 2*c + a*b },
	} {
		with := pat(t, s)
		lists := make([][][]int, many)
		each(3, many, func(l []int) {
			home := comes(l[0], l[1], l[2]) % many
			lists[home] = append(lists[home], slices.Clone(l))
		})
		for _, home := range []int{0, 1, 5, 21, 62} {
			if len(lists[home]) > api.MaxFound {
				fails(t, s, with, p, home, api.ErrLarge, api.ErrLarge)
				continue
			}
			finds(t, with, p, home, written(lists[home]))
		}
		for _, l := range lists[7][:20] {
			located(t, with, p, l, 7)
		}
	}
	var want []api.Match
	for c := range many {
		for a := range many {
			want = append(want, api.Match{Class: c, Holes: []int{a, (c - a + many) % many}})
		}
	}
	findsAll(t, pat(t, "@a + @b"), p, want)
}
