package graph_test

import (
	"fmt"
	"math"
	"math/rand"
	"slices"
	"strings"
	"testing"

	"sorrel/api"
	"sorrel/graph"
)

// class is a class of a picture.
func class(size int, nodes ...api.Node) api.Class { return api.Class{Nodes: nodes, Size: size} }

// copied is a picture that shares nothing.
func copied(p api.Picture) api.Picture {
	q := api.Picture{Roots: slices.Clone(p.Roots)}
	for _, c := range p.Classes {
		var nodes []api.Node
		for _, n := range c.Nodes {
			n.Kids = slices.Clone(n.Kids)
			nodes = append(nodes, n)
		}
		q.Classes = append(q.Classes, api.Class{Nodes: nodes, Size: c.Size})
	}
	return q
}

// of is the graph of a sound picture, whose picture is held against that one.
func of(t *testing.T, p api.Picture) *graph.Graph {
	t.Helper()
	x, bad := graph.Of(p)
	if x == nil || bad != api.OK {
		t.Fatalf("Of(%s): %d", text(p), bad)
	}
	if is := look(t, x); is != text(p) {
		t.Fatalf("the picture of the graph of %s is %s", text(p), is)
	}
	return x
}

// refusedOf holds that a picture is not sound.
func refusedOf(t *testing.T, what string, p api.Picture) {
	t.Helper()
	if x, bad := graph.Of(p); x != nil || bad != api.ErrForm {
		t.Errorf("Of, %s: %v, %d", what, x != nil, bad)
	}
}

// tower is two leaves and sums of each with itself, of these with themselves, and so on, so often; the sizes are 1, 3, 7, 15, ..
func tower(levels int) api.Picture {
	p := api.Picture{Classes: []api.Class{class(1, vari("a")), class(1, vari("b"))}}
	for level := 1; level <= levels; level++ {
		for side := range 2 {
			below := 2*(level-1) + side
			p.Classes = append(p.Classes, class(2<<level-1, do(api.OpAdd, below, below)))
		}
	}
	p.Roots = []int{2 * levels, 0, 2*levels + 1, 2 * levels}
	return p
}

// stacked is a random sound picture: that of a random graph, with further classes and nodes above, of which some are great.
func stacked(r *rand.Rand, ops []int) api.Picture {
	told := &plain{}
	for range 1 + r.Intn(6) {
		told.merge(random(r, 1+r.Intn(6), ops, fewLeaves), random(r, 1+r.Intn(6), ops, fewLeaves))
	}
	var nodes [][]api.Node
	var all []api.Node
	for _, c := range told.picture().Classes {
		nodes = append(nodes, c.Nodes)
		all = append(all, c.Nodes...)
	}
	last := len(nodes)
	if r.Intn(2) == 0 {
		last = 3
	}
	for range r.Intn(24) {
		n := api.Node{Op: ops[r.Intn(len(ops))]}
		for range arities[n.Op] {
			n.Kids = append(n.Kids, len(nodes)-1-r.Intn(min(last, len(nodes))))
		}
		if slices.ContainsFunc(all, func(x api.Node) bool { return same(x, n) }) {
			continue
		}
		all = append(all, n)
		if r.Intn(5) == 0 {
			c := r.Intn(len(nodes))
			nodes[c] = append(nodes[c], n)
		} else {
			nodes = append(nodes, list(n))
		}
	}
	if slices.Contains(lowest(nodes), nil) {
		return stacked(r, ops) // Size MaxSize or more.
	}
	var roots []int
	for range r.Intn(4) {
		roots = append(roots, r.Intn(len(nodes)))
	}
	return drawn(nodes, roots)
}

// P11.1

func TestOfNothing(t *testing.T) {
	for _, p := range []api.Picture{{}, {Classes: []api.Class{}, Roots: []int{}}} {
		x := of(t, p)
		has(t, x, name("a"), false)
		add(t, x, read(t, "a+1"))
		if is, want := look(t, x), look(t, told(t, "a+1")); is != want {
			t.Errorf("%s, want %s", is, want)
		}
	}
}

// TestOfByChance: the picture of a picture's graph is that picture, and what is equal in the one is in the other.
func TestOfByChance(t *testing.T) {
	r := rand.New(rand.NewSource(121))
	great := 0
	for round := range 400 {
		ops := fewOps
		if round%2 == 1 {
			ops = everyOp()
		}
		p := stacked(r, ops)
		if !sound(p) {
			t.Fatalf("%s is not sound", text(p))
		}
		for _, c := range p.Classes {
			if c.Size > api.MaxTerm {
				great++
			}
		}
		x := of(t, p)
		for range 20 {
			a, b := random(r, 1+r.Intn(7), ops, fewLeaves), random(r, 1+r.Intn(7), ops, fewLeaves)
			i, k := where(p, a), where(p, b)
			has(t, x, a, i >= 0)
			if i < 0 || k < 0 {
				equal(t, x, a, b, false, api.ErrNone)
			} else {
				equal(t, x, a, b, i == k, api.OK)
			}
		}
	}
	if great < 100 {
		t.Errorf("only %d classes were great", great)
	}
}

// where is the class of a picture that represents an expression, or -1.
func where(p api.Picture, e []api.Node) int {
	n := e[len(e)-1]
	var kids []int
	for _, part := range parts(e) {
		kids = append(kids, where(p, part))
	}
	n.Kids = kids
	for c, class := range p.Classes {
		if slices.ContainsFunc(class.Nodes, func(x api.Node) bool { return same(x, n) }) {
			return c
		}
	}
	return -1
}

// TestOfGoesOn: a graph made of a picture takes further calls as the one does of which the picture is.
func TestOfGoesOn(t *testing.T) {
	r := rand.New(rand.NewSource(122))
	for round := range 60 {
		ops := fewOps
		if round%2 == 1 {
			ops = everyOp()
		}
		x := graph.New()
		for range 12 {
			y := of(t, picture(t, x))
			z := of(t, picture(t, y.Copy()))
			for range 3 {
				a, b := random(r, 1+r.Intn(7), ops, fewLeaves), random(r, 1+r.Intn(7), ops, fewLeaves)
				for _, g := range []*graph.Graph{x, y, z} {
					if round%3 == 0 {
						add(t, g, a)
					}
					merge(t, g, a, b)
				}
			}
			if is, want := look(t, y), look(t, x); is != want || look(t, z) != want {
				t.Fatalf("%s and %s, want %s", is, look(t, z), want)
			}
			if r.Intn(2) == 0 {
				x = y
			}
		}
	}
}

// TestOfGreatClasses: classes that no expression names are merged by what follows from others.
func TestOfGreatClasses(t *testing.T) {
	const levels = 29 // The size of the last ones is MaxSize-1.
	p := tower(levels)
	if p.Classes[2*levels+1].Size != api.MaxSize-1 {
		t.Fatalf("the greatest Size is %d", p.Classes[2*levels+1].Size)
	}
	x := of(t, p)
	add(t, x, read(t, "b+b"))
	if q := picture(t, x); len(q.Classes) != len(p.Classes) || q.Roots[4] != 3 {
		t.Fatalf("%s", text(q))
	}
	merge(t, x, name("b"), name("a"))
	want := api.Picture{Classes: []api.Class{class(1, vari("a"), vari("b"))}, Roots: []int{levels, 0, levels, levels, 1}}
	for level := 1; level <= levels; level++ {
		want.Classes = append(want.Classes, class(2<<level-1, do(api.OpAdd, level-1, level-1)))
	}
	if is := look(t, x); is != text(want) {
		t.Fatalf("%s, want %s", is, text(want))
	}
	merge(t, x, read(t, "a+a+(a+b)"), name("a"))
	if is, want := look(t, x), "0: 2/0/a[] 2/0/b[] 5/0/[1 1] size 1; 1: 5/0/[0 0] size 3; [1 0 1 1 1]"; is != want {
		t.Fatalf("%s, want %s", is, want)
	}
}

// TestOfWhatIsNotSound: each way in which a picture can fail to be sound.
func TestOfWhatIsNotSound(t *testing.T) {
	one, a, b := lit(1), vari("a"), vari("b")
	base := []api.Class{class(1, one), class(1, a, b), class(3, do(api.OpAdd, 1, 0))}
	of(t, api.Picture{Classes: base, Roots: []int{2, 0, 1, 2}})
	sums := []api.Class{class(1, one), class(1, a), class(3, do(api.OpAdd, 0, 0)), class(3, do(api.OpAdd, 0, 1)), class(3, do(api.OpSub, 0, 0)), class(5, do(api.OpNeg, 6), do(api.OpAdd, 1, 2)), class(6, do(api.OpNeg, 5))}
	of(t, api.Picture{Classes: sums})
	for what, classes := range map[string][]api.Class{
		"no nodes":                             {class(1)},
		"no nodes in the second class":         {class(1, one), class(1)},
		"op 0":                                 {class(1, api.Node{})},
		"op far above":                         {class(1, api.Node{Op: math.MaxInt})},
		"op far below":                         {class(1, api.Node{Op: math.MinInt})},
		"a hole":                               {class(1, api.Node{Op: api.OpHole, Name: "a"})},
		"a literal with a name":                {class(1, api.Node{Op: api.OpLit, Name: "a"})},
		"a literal with a kid":                 {class(1, one), class(2, api.Node{Op: api.OpLit, N: 2, Kids: []int{0}})},
		"a variable with N":                    {class(1, api.Node{Op: api.OpVar, Name: "a", N: 1})},
		"a variable with a kid":                {class(1, one), class(2, api.Node{Op: api.OpVar, Name: "a", Kids: []int{0}})},
		"a variable without name":              {class(1, vari(""))},
		"a name that is none":                  {class(1, vari("3"))},
		"a bad byte in a name":                 {class(1, vari("a\xff"))},
		"a name that is too long":              {class(1, vari(strings.Repeat("x", api.MaxName+1)))},
		"an operator with N":                   {class(1, one), class(2, api.Node{Op: api.OpNeg, N: 1, Kids: []int{0}})},
		"an operator with a name":              {class(1, one), class(2, api.Node{Op: api.OpNeg, Name: "a", Kids: []int{0}})},
		"an operator without kids":             {class(1, do(api.OpNeg))},
		"too few kids":                         {class(1, one), class(2, do(api.OpAdd, 0))},
		"too many kids":                        {class(1, one), class(4, do(api.OpAdd, 0, 0, 0))},
		"two kids of an if":                    {class(1, one), class(3, do(api.OpIf, 0, 0))},
		"four kids of an if":                   {class(1, one), class(5, do(api.OpIf, 0, 0, 0, 0))},
		"an unsound node beside a sound one":   {class(1, one, api.Node{Op: api.OpNot, Kids: nil})},
		"kid -1":                               {class(1, one), class(2, do(api.OpNeg, -1))},
		"a kid behind the last class":          {class(1, one), class(2, do(api.OpNeg, 2))},
		"a kid far above":                      {class(1, one), class(2, do(api.OpNeg, math.MaxInt))},
		"a kid far below":                      {class(1, one), class(3, do(api.OpAdd, 0, math.MinInt))},
		"a kid none beside a least node":       {class(1, one, do(api.OpNeg, 1))},
		"a node twice":                         {class(1, one, one)},
		"an operator's node twice":             {class(1, one), class(2, do(api.OpNeg, 0), do(api.OpNeg, 0))},
		"a leaf in two classes":                {class(1, one, a), class(1, a)},
		"a leaf that is the least of two":      {class(1, a), class(1, a)},
		"an operator's node in two classes":    {class(1, one, do(api.OpNeg, 0)), class(1, a, do(api.OpNeg, 0))},
		"a node beside one that is above it":   {class(1, one), class(2, do(api.OpNeg, 0)), class(3, do(api.OpNeg, 1), do(api.OpNeg, 0))},
		"nothing is represented":               {class(1, do(api.OpNeg, 0))},
		"nothing is represented, Size 2":       {class(2, do(api.OpNeg, 0))},
		"nothing in a ring":                    {class(1, one), class(2, do(api.OpNeg, 2)), class(3, do(api.OpNeg, 1))},
		"nothing in a ring of one Size":        {class(1, one), class(2, do(api.OpNeg, 2)), class(2, do(api.OpNeg, 1))},
		"nothing behind a leaf":                {class(1, a), class(5, do(api.OpAdd, 0, 1))},
		"Size 0":                               {class(0, one)},
		"Size 0 in a ring":                     {class(0, do(api.OpNeg, 0))},
		"Size -1":                              {class(-1, one)},
		"Size -1 of a sum of itself":           {class(-1, do(api.OpAdd, 0, 0))},
		"Size 2 of a leaf":                     {class(2, one)},
		"Size too small":                       {class(1, one), class(2, do(api.OpAdd, 0, 0))},
		"Size too great":                       {class(1, one), class(4, do(api.OpAdd, 0, 0))},
		"Size of the node that is not least":   {class(1, one), class(3, do(api.OpNeg, 0), do(api.OpAdd, 0, 0))},
		"Sizes that fit each other alone":      {class(1, one), class(3, do(api.OpNeg, 0)), class(4, do(api.OpNeg, 1))},
		"Size MaxSize":                         {class(api.MaxSize, one)},
		"Size far above":                       {class(math.MaxInt, one)},
		"Size far below":                       {class(math.MinInt, one)},
		"Sizes that wrap round":                {class(math.MaxInt, do(api.OpAdd, 0, 0)), class(math.MaxInt, do(api.OpIf, 0, 0, 0))},
		"literals the wrong way about":         {class(1, lit(2)), class(1, lit(1))},
		"literals about 0 the wrong way about": {class(1, lit(0)), class(1, lit(-1))},
		"a variable ahead of a literal":        {class(1, a), class(1, one)},
		"variables the wrong way about":        {class(1, b), class(1, a)},
		"names the wrong way about":            {class(1, vari("ab")), class(1, a)},
		"a greater class ahead":                {class(2, do(api.OpNeg, 1)), class(1, a)},
		"operators the wrong way about":        {class(1, a), class(2, do(api.OpNot, 0)), class(2, do(api.OpNeg, 0))},
		"first parts the wrong way about":      {class(1, one), class(1, a), class(3, do(api.OpSub, 1, 0)), class(3, do(api.OpSub, 0, 1))},
		"second parts the wrong way about":     {class(1, one), class(1, a), class(3, do(api.OpSub, 0, 1)), class(3, do(api.OpSub, 0, 0))},
		"classes in the order of other nodes":  {class(1, lit(0), lit(9)), class(1, lit(5)), class(1, lit(3), lit(4))},
		"nodes by operator the wrong way":      {class(1, a, one)},
		"nodes by N the wrong way":             {class(1, lit(2), lit(-2))},
		"nodes by name the wrong way":          {class(1, b, a)},
		"nodes by names' lengths":              {class(1, vari("b"), vari("aa"))},
		"nodes by the first kid the wrong way": {class(1, one), class(1, a, do(api.OpAdd, 1, 0), do(api.OpAdd, 0, 1))},
		"nodes by the last kid the wrong way":  {class(1, one), class(1, a, do(api.OpIf, 0, 0, 1), do(api.OpIf, 0, 0, 0))},
		"nodes by their sizes":                 {class(1, one), class(2, do(api.OpNot, 0), do(api.OpNeg, 1))},
	} {
		if sound(api.Picture{Classes: classes}) {
			t.Errorf("%s is sound", what)
		}
		refusedOf(t, what, api.Picture{Classes: classes})
	}
	for _, roots := range [][]int{{-1}, {3}, {0, 1, 2, 3}, {2, -1, 0}, {math.MaxInt}, {math.MinInt}, {1 << 32}} {
		refusedOf(t, fmt.Sprint("roots ", roots), api.Picture{Classes: base, Roots: roots})
	}
	refusedOf(t, "a root of nothing", api.Picture{Roots: []int{0}})
}

// TestOfSpoiltPictures: sound pictures of which one thing is changed, against the second reckoning.
func TestOfSpoiltPictures(t *testing.T) {
	r := rand.New(rand.NewSource(123))
	verdicts := [2]int{}
	for round := range 6000 {
		ops := fewOps
		if round%2 == 1 {
			ops = everyOp()
		}
		p := stacked(r, ops)
		for range 1 + r.Intn(2) {
			spoilOne(r, &p)
		}
		x, bad := graph.Of(p)
		want := sound(p)
		if want && (x == nil || bad != api.OK) || !want && (x != nil || bad != api.ErrForm) {
			t.Fatalf("Of(%s) = %v, %d, but sound is %v", text(p), x != nil, bad, want)
		}
		if want {
			of(t, p)
			verdicts[0]++
		} else {
			verdicts[1]++
		}
	}
	if verdicts[0] < 100 || verdicts[1] < 1000 {
		t.Errorf("%d sound and %d unsound pictures", verdicts[0], verdicts[1])
	}
}

// spoilOne changes one thing in a picture.
func spoilOne(r *rand.Rand, p *api.Picture) {
	c := r.Intn(len(p.Classes))
	other := r.Intn(len(p.Classes))
	if len(p.Classes[c].Nodes) == 0 {
		return
	}
	i := r.Intn(len(p.Classes[c].Nodes))
	n := &p.Classes[c].Nodes[i]
	switch r.Intn(10) {
	case 0:
		p.Classes[c].Size += r.Intn(3) - 1
	case 1:
		p.Classes[c], p.Classes[other] = p.Classes[other], p.Classes[c]
	case 2:
		p.Classes[other].Nodes = append(p.Classes[other].Nodes, *n)
		slices.SortFunc(p.Classes[other].Nodes, nodeOrder)
	case 3:
		p.Classes[c].Nodes = slices.Delete(p.Classes[c].Nodes, i, i+1)
	case 4:
		n.Op += r.Intn(3) - 1
	case 5:
		if n.Op == api.OpLit || r.Intn(4) == 0 {
			n.N += int64(r.Intn(3) - 1)
		}
	case 6:
		if n.Op == api.OpVar || r.Intn(4) == 0 {
			n.Name = []string{"", "a", "b", "aa", "é", "z", "9"}[r.Intn(7)]
		}
	case 7:
		if len(n.Kids) > 0 {
			n.Kids[r.Intn(len(n.Kids))] = r.Intn(len(p.Classes)+2) - 1
		}
	case 8:
		k := r.Intn(len(p.Classes[c].Nodes))
		p.Classes[c].Nodes[k], *n = *n, p.Classes[c].Nodes[k]
	case 9:
		p.Roots = append(p.Roots, r.Intn(len(p.Classes)+2)-1)
	}
}

// TestOfAboutTheLimits: of classes, of nodes, of sizes.
func TestOfAboutTheLimits(t *testing.T) {
	var p api.Picture
	for i := range api.MaxClasses {
		p.Classes = append(p.Classes, class(1, lit(int64(2*i)), lit(int64(2*i+1))))
	}
	x := of(t, p)
	counts(t, x, api.MaxClasses, api.MaxNodes)
	refusedAdd(t, x, name("a"))
	add(t, x, number(api.MaxNodes-1))
	more := copied(p)
	last := &more.Classes[api.MaxClasses-1]
	last.Nodes = append(last.Nodes, vari("a"))
	refusedOf(t, "MaxNodes+1 nodes", more)
	more = copied(p)
	more.Classes[5].Nodes = more.Classes[5].Nodes[:1]
	more.Classes[6].Nodes = more.Classes[6].Nodes[:1]
	of(t, more)
	refusedOf(t, "MaxClasses+1 classes", api.Picture{Classes: append(more.Classes, class(1, vari("a")))})
	var leaves []api.Node
	for i := range api.MaxNodes + 1 {
		leaves = append(leaves, lit(int64(i)))
	}
	counts(t, of(t, api.Picture{Classes: []api.Class{class(1, leaves[:api.MaxNodes]...)}}), 1, api.MaxNodes)
	refusedOf(t, "MaxNodes+1 nodes in one class", api.Picture{Classes: []api.Class{class(1, leaves...)}})
	refusedOf(t, "a million classes", api.Picture{Classes: make([]api.Class, 1<<20)})

	of(t, tower(29))
	refusedOf(t, "a Size above MaxSize", tower(30))
	high := tower(29)
	high.Classes = append(high.Classes, class(api.MaxSize, do(api.OpNeg, 59)))
	refusedOf(t, "Size MaxSize", high)
	high.Classes[60].Size = api.MaxSize - 1
	refusedOf(t, "Size MaxSize, told as less", high)
	high.Classes[60] = class(api.MaxSize, do(api.OpNeg, 58))
	refusedOf(t, "Size MaxSize of another node", high)
	swapped := tower(20)
	swapped.Classes[40], swapped.Classes[41] = swapped.Classes[41], swapped.Classes[40]
	refusedOf(t, "great classes the wrong way about", swapped)
}

// TestOfManyRoots: any number of them, the same ones too.
func TestOfManyRoots(t *testing.T) {
	p := tower(3)
	r := rand.New(rand.NewSource(124))
	for range 3 * api.MaxNodes {
		p.Roots = append(p.Roots, r.Intn(len(p.Classes)))
	}
	of(t, p)
	p.Roots = append(p.Roots, len(p.Classes))
	refusedOf(t, "a last root that is none", p)
}

// P11.5

// TestPictureOrder: classes in the order of their least expressions, by each thing that the order asks.
func TestPictureOrder(t *testing.T) {
	want := []string{
		"-9223372036854775807", "-1", "0", "1", "9223372036854775807",
		"A", "a", "a1", "aa", "ab", "b", "é", "名",
		"-(0)", "-a", "~0", "~b",
		"-(-(0))", "-(-a)", "-(~0)", "~(-a)", "~(~b)",
		"0+0", "0+a", "a+0", "a+1", "a-1", "b-1", "0*b", "0/b", "0%b", "0&b", "0|b", "0^b", "0<<b", "0>>b", "0==b", "0<b", "1<b",
		"-(-(-(a)))",
	}
	r := rand.New(rand.NewSource(125))
	for range 6 {
		x := paired()
		for _, i := range r.Perm(len(want)) {
			x.add(t, read(t, want[i]))
		}
		x.agree(t)
		p, before := picture(t, x.x), -1
		for _, s := range want {
			at := where(p, read(t, s))
			if at <= before {
				t.Fatalf("%s is class %d, behind class %d", s, at, before)
			}
			before = at
		}
	}
}

// TestPictureNodes: the nodes of one class, by operator, N, Name and Kids.
func TestPictureNodes(t *testing.T) {
	want := []string{
		"-5", "0", "7", "A", "a", "aa", "b", "é", "-u", "-w", "~u", "u+u", "u+w", "w+u", "w-u", "u*u", "u/u", "u%u", "u&u", "u|u", "u^u", "u<<u", "u>>u", "u==u", "u<u", "w<u", "u?u:w", "u?w:u", "w?u:u",
	}
	r := rand.New(rand.NewSource(126))
	for range 20 {
		x := paired()
		for _, i := range r.Perm(len(want)) {
			x.merge(t, read(t, want[i]), read(t, "a"))
		}
		x.agree(t)
		p := picture(t, x.x)
		nodes := p.Classes[0].Nodes
		if len(nodes) != len(want) || len(p.Classes) != 3 || p.Classes[0].Size != 1 {
			t.Fatalf("%s", text(p))
		}
		for i, s := range want {
			e := read(t, s)
			n := e[len(e)-1]
			for k, part := range parts(e) {
				n.Kids[k] = where(p, part)
			}
			if !same(nodes[i], n) {
				t.Fatalf("the node %d is %v, want that of %s", i, nodes[i], s)
			}
		}
	}
}

// TestPictureSizes: each merging may make the least expressions of many classes less, and give them another order.
func TestPictureSizes(t *testing.T) {
	x := paired()
	x.add(t, read(t, "(p*q + 1) * (p*q + 1) - (p*q + 2)"))
	x.add(t, read(t, "-(a*b*c*d)"))
	x.agree(t)
	for _, c := range [][2]string{{"p*q", "~r"}, {"p*q + 1", "a*b*c*d"}, {"~r", "z"}, {"-(a*b*c*d)", "b*a"}, {"z+2", "z+1"}, {"(p*q + 1) * (p*q + 1)", "5"}, {"z", "z-z"}, {"5", "5-a"}} {
		x.merge(t, read(t, c[0]), read(t, c[1]))
		x.agree(t)
	}
}

// TestPictureIsSound: of whatever graph.
func TestPictureIsSound(t *testing.T) {
	r := rand.New(rand.NewSource(127))
	for round := range 60 {
		ops := fewOps
		if round%2 == 1 {
			ops = everyOp()
		}
		x := graph.New()
		for range 15 {
			if r.Intn(2) == 0 {
				add(t, x, random(r, 1+r.Intn(api.MaxTerm), ops, fewLeaves))
			} else {
				merge(t, x, random(r, 1+r.Intn(20), ops, fewLeaves), random(r, 1+r.Intn(20), ops, fewLeaves))
			}
		}
		p := picture(t, x)
		if !sound(p) {
			t.Fatalf("the picture is not sound: %s", text(p))
		}
		of(t, p)
	}
}

// TestManyMerges: great graphs, whose classes are merged from the one end on, from the other, by halves, and by chance, have one picture in the end.
func TestManyMerges(t *testing.T) {
	const many = 600
	v := func(i int) []api.Node { return name(fmt.Sprint("v", i)) }
	rows := map[string]func(merge func(a, b int)){
		"rising": func(merge func(a, b int)) {
			for i := 1; i < many; i++ {
				merge(i-1, i)
			}
		},
		"falling": func(merge func(a, b int)) {
			for i := many - 1; i > 0; i-- {
				merge(i, i-1)
			}
		},
		"to the first": func(merge func(a, b int)) {
			for i := many - 1; i > 0; i-- {
				merge(0, i)
			}
		},
		"to the last": func(merge func(a, b int)) {
			for i := range many - 1 {
				merge(i, many-1)
			}
		},
		"by halves": func(merge func(a, b int)) {
			for step := 1; step < many; step *= 2 {
				for i := 0; i+step < many; i += 2 * step {
					merge(i+step, i)
				}
			}
		},
		"by chance": func(merge func(a, b int)) {
			r := rand.New(rand.NewSource(128))
			row := r.Perm(many)
			for i := 1; i < many; i++ {
				merge(row[r.Intn(i)], row[i])
			}
		},
	}
	want := ""
	for what, row := range rows {
		x := graph.New()
		for i := range many {
			add(t, x, made(api.OpIf, v(i), made(api.OpNeg, v(i)), made(api.OpSub, v(0), v(many-1-i))))
		}
		counts(t, x, 4*many, 4*many)
		row(func(a, b int) { merge(t, x, v(a), v(b)) })
		counts(t, x, 4, many+3)
		is := look(t, x)
		if want == "" {
			want = is
		}
		if is != want {
			t.Errorf("%s: another picture", what)
		}
	}
}

// TestCopy: it has the same in it, and from then on neither sees what is done to the other.
func TestCopy(t *testing.T) {
	r := rand.New(rand.NewSource(129))
	for round := range 40 {
		ops := fewOps
		if round%2 == 1 {
			ops = everyOp()
		}
		all := []pair{paired()}
		for range 12 {
			x := all[r.Intn(len(all))]
			if len(all) < 5 {
				all = append(all, pair{x.x.Copy(), x.p.copy()})
			}
			a, b := random(r, 1+r.Intn(6), ops, fewLeaves), random(r, 1+r.Intn(6), ops, fewLeaves)
			if r.Intn(3) == 0 {
				x.add(t, a)
			} else {
				x.merge(t, a, b)
			}
			for _, y := range all {
				y.agree(t, a, b, made(ops[0], a))
			}
		}
	}
}

func TestCopyOfNothing(t *testing.T) {
	x := graph.New()
	y := x.Copy()
	if y == nil || y == x {
		t.Fatalf("Copy() = %v", y)
	}
	add(t, y, name("a"))
	has(t, x, name("a"), false)
	add(t, x, name("b"))
	has(t, y, name("b"), false)
	if is := look(t, y.Copy().Copy()); is != look(t, y) {
		t.Errorf("%s", is)
	}
}

// TestCopyOfFullGraphs: the limits count in a copy as they do in the graph.
func TestCopyOfFullGraphs(t *testing.T) {
	x := full(t)
	y := x.Copy()
	merge(t, x, number(0), number(1))
	refusedAdd(t, y, name("a"))
	add(t, x, name("a"))
	refusedAdd(t, x, name("b"))
	counts(t, x, api.MaxClasses, api.MaxClasses+1)
	counts(t, y, api.MaxClasses, api.MaxClasses)
	x = heap(t, api.MaxNodes)
	y = x.Copy()
	refusedAdd(t, y, name("a"))
	merge(t, y, number(5), number(api.MaxNodes-1))
	counts(t, y, 1, api.MaxNodes)
	g := of(t, picture(t, y))
	refusedMerge(t, g, name("a"), number(0))
}

// TestCopyOfGreatClasses: of sizes far above what an expression may have.
func TestCopyOfGreatClasses(t *testing.T) {
	p := tower(29)
	x := of(t, p)
	y := x.Copy()
	merge(t, x, name("a"), name("b"))
	if is := look(t, y); is != text(p) {
		t.Errorf("%s, want %s", is, text(p))
	}
	merge(t, y, name("a"), name("b"))
	if is := look(t, y); is != look(t, x) {
		t.Errorf("%s, want %s", is, look(t, x))
	}
	add(t, y.Copy(), name("c"))
	has(t, y, name("c"), false)
}
