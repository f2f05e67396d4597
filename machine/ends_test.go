package machine_test

import (
	"fmt"
	"math/rand"
	"slices"
	"testing"

	"sorrel/api"
)

// R8: programs with so many runs that nobody could follow each by itself.

// loops is a class of z and all sums of itself and some variables, behind those.
func loops(many int) api.Picture {
	var p api.Picture
	sums := []api.Node{vari("z")}
	for a := range many + 1 {
		if a < many {
			p.Classes = append(p.Classes, class(vari(fmt.Sprintf("x%c", 'a'+a))))
		}
		for b := range many + 1 {
			sums = append(sums, do(api.OpAdd, a, b))
		}
	}
	p.Classes = append(p.Classes, class(sums...))
	return p
}

// TestLooksBesideEachOther: 9 to the 63rd runs, 81 lists at most.
func TestLooksBesideEachOther(t *testing.T) {
	p := rich(3)
	var prog []api.Cmd
	for i := range 63 {
		prog = append(prog, look(0, api.OpAdd, 2*i+1))
	}
	finds(t, append(prog, take(0, 0)), 1, p, 3, "[[3]]")
	finds(t, append(prog, take(125, 0)), 1, p, 3, "[[0] [1] [2]]")
	finds(t, append(prog, lookVar(7, "xaa", 127)), 0, p, 3, "[[]]")
	finds(t, append(prog, lookVar(7, "xad", 127)), 0, p, 3, "[]")
	finds(t, append(prog[:60:60], take(1, 0), take(40, 1), take(41, 2), lookVar(2, "xab", 121)), 3, p, 3, "[[0 0 0] [0 0 1] [0 0 2] [0 1 0] [0 1 1] [0 1 2] [0 2 0] [0 2 1] [0 2 2] [1 0 0] [1 0 1] [1 0 2] [1 1 0] [1 1 1] [1 1 2] [1 2 0] [1 2 1] [1 2 2] [2 0 0] [2 0 1] [2 0 2] [2 1 0] [2 1 1] [2 1 2] [2 2 0] [2 2 1] [2 2 2]]")
}

// TestLooksInATree: a whole tree of looks, level by level, over classes of several nodes.
func TestLooksInATree(t *testing.T) {
	p := pic(class(vari("x"), do(api.OpAdd, 0, 0), do(api.OpAdd, 1, 1)), class(vari("y"), do(api.OpAdd, 0, 1), do(api.OpAdd, 1, 0)))
	var prog []api.Cmd
	for i := range 60 {
		prog = append(prog, look(i, api.OpAdd, 2*i+1))
	}
	for _, c := range []struct {
		more []api.Cmd
		want [2]string
	}{
		{nil, [2]string{"[[]]", "[[]]"}},
		{[]api.Cmd{take(120, 0)}, [2]string{"[[0] [1]]", "[[0] [1]]"}},
		{[]api.Cmd{take(120, 0), take(1, 1), take(2, 2)}, [2]string{"[[0 0 0] [0 1 1] [1 0 0] [1 1 1]]", "[[0 0 1] [0 1 0] [1 0 1] [1 1 0]]"}},
		{[]api.Cmd{lookVar(120, "y", 121), lookVar(61, "x", 121)}, [2]string{"[[]]", "[[]]"}},
		{[]api.Cmd{lookVar(120, "z", 121)}, [2]string{"[]", "[]"}},
		{[]api.Cmd{same(0, 1), take(2, 0)}, [2]string{"[[0]]", "[[0]]"}},
		{[]api.Cmd{same(120, 119), take(59, 0)}, [2]string{"[[0]]", "[[0]]"}},
		{[]api.Cmd{same(120, 61), same(119, 62), same(80, 90), take(120, 0)}, [2]string{"[[0] [1]]", "[[0] [1]]"}},
	} {
		for at, want := range c.want {
			holes := 0
			for _, c := range c.more {
				holes += c.Kind / api.CTake
			}
			finds(t, append(prog[:60:60], c.more...), holes, p, at, want)
		}
	}
}

// web is a picture of so many classes, of which each has two sums; a walk along first parts comes from each of them almost anywhere.
func web(many int) api.Picture {
	p := pic(class(lit(0)))
	for c := 1; c < many; c++ {
		p.Classes = append(p.Classes, class(lit(int64(c))))
	}
	r := rand.New(rand.NewSource(1521))
	used := map[[2]int]bool{}
	for c := range p.Classes {
		var kids [][]int
		for len(kids) < 2 {
			pair := [2]int{r.Intn(many), r.Intn(many)}
			if !used[pair] {
				used[pair] = true
				kids = append(kids, pair[:])
			}
		}
		slices.SortFunc(kids, slices.Compare)
		for _, k := range kids {
			p.Classes[c].Nodes = append(p.Classes[c].Nodes, do(api.OpAdd, k...))
		}
	}
	return p
}

// TestLongWalks: through a picture with as many nodes as there may be.
func TestLongWalks(t *testing.T) {
	p := web(api.MaxNodes / 3)
	var prog []api.Cmd
	want := map[int]bool{7: true}
	for i := range 62 {
		prog = append(prog, look(max(0, 2*i-1), api.OpAdd, 2*i+1))
		next := map[int]bool{}
		for c := range want {
			for _, n := range p.Classes[c].Nodes[1:] {
				next[n.Kids[0]] = true
			}
		}
		want = next
	}
	var l [][]int
	for c := range p.Classes {
		if want[c] {
			l = append(l, []int{c})
		}
	}
	finds(t, append(prog, take(123, 0)), 1, p, 7, fmt.Sprint(l))
}

// dense is a class of all choices between two of so many numbers with itself as the third part, behind those.
func dense(many int) api.Picture {
	var p api.Picture
	var choices []api.Node
	for a := range many {
		p.Classes = append(p.Classes, class(lit(int64(a))))
		for b := range many {
			choices = append(choices, do(api.OpIf, a, b, many))
		}
	}
	p.Classes = append(p.Classes, class(append([]api.Node{vari("z")}, choices...)...))
	return p
}

// TestLongWalksInOneClass: each look has thousands of nodes, and all of them lead to the same class again.
func TestLongWalksInOneClass(t *testing.T) {
	const many = 88
	p := dense(many)
	var prog []api.Cmd
	for i := range 60 {
		prog = append(prog, look(3*i, api.OpIf, 3*i+1))
	}
	all, alike := make([][]int, many), make([][]int, many)
	for c := range many {
		all[c], alike[c] = []int{c}, []int{c, 5, many}
	}
	finds(t, append(prog[:60:60], take(178, 0)), 1, p, many, fmt.Sprint(all))
	finds(t, append(prog[:60:60], take(1, 0), lookLit(178, 5, 181), take(178, 1), take(180, 2)), 3, p, many, fmt.Sprint(alike))
	finds(t, append(prog[:60:60], take(1, 0), take(178, 1), same(1, 178)), 2, p, many, fmt.Sprint(pairs(many)))
	finds(t, append(prog[:60:60], take(1, 0), lookLit(178, many, 181)), 1, p, many, "[]")
	runFails(t, "7744 lists", append(prog[:60:60], take(178, 0), take(1, 1)), 2, p, many, api.ErrLarge)
}

// pairs is lists of each number below one, twice.
func pairs(many int) [][]int {
	var l [][]int
	for c := range many {
		l = append(l, []int{c, c})
	}
	return l
}

// TestWaysThatMeet: five levels of choices, all of which find the same.
func TestWaysThatMeet(t *testing.T) {
	const many = 60
	p, prog := meeting(many)
	top := len(p.Classes) - 1
	finds(t, prog, 6, p, top, fmt.Sprint([][]int{{0, 0, 0, 0, 0, many + 1}}))
	// And then nothing.
	finds(t, append(prog, look(0, api.OpNeg, 26)), 6, p, top, "[]")
}

// meeting is a picture and a program of choices one below the other. Each has many nodes, whose second parts differ, but are all sums of the class 0.
func meeting(many int) (api.Picture, []api.Cmd) {
	p := pic(class(lit(0)), class(vari("x")))
	var sums []int
	for i := range many {
		p.Classes = slices.Insert(p.Classes, 1+i, class(lit(int64(i+1))))
	}
	x := len(p.Classes) - 1
	for i := range many {
		sums = append(sums, len(p.Classes))
		p.Classes = append(p.Classes, sized(3, do(api.OpAdd, 0, 1+i)))
	}
	below, size := x, 1
	for range 5 {
		var nodes []api.Node
		for _, sum := range sums {
			nodes = append(nodes, do(api.OpIf, below, sum, 0))
		}
		size += 5
		below = len(p.Classes)
		p.Classes = append(p.Classes, sized(size, nodes...))
	}
	var prog []api.Cmd
	registers, at := 1, 0
	var seconds []int
	for range 5 {
		prog = append(prog, look(at, api.OpIf, registers))
		at = registers
		seconds = append(seconds, registers+1)
		registers += 3
	}
	for i, second := range seconds {
		prog = append(prog, look(second, api.OpAdd, registers), take(registers, i))
		registers += 2
	}
	return p, append(prog, take(at, 5))
}

// TestSames: paths, rings and ladders of looks at one class, whose parts have to be the same.
func TestSames(t *testing.T) {
	p := loops(12)
	var ring []api.Cmd
	for i := range 30 {
		ring = append(ring, look(0, api.OpAdd, 2*i+1))
	}
	for i := range 29 {
		ring = append(ring, same(2*i+2, 2*i+3))
	}
	var any [][]int
	for c := range p.Classes {
		any = append(any, []int{c})
	}
	finds(t, append(ring, take(31, 0)), 1, p, 12, fmt.Sprint(any))
	finds(t, append(ring, same(1, 60), take(31, 0)), 1, p, 12, fmt.Sprint(any))
	finds(t, append(ring, same(1, 60), same(40, 0), take(40, 0)), 1, p, 12, "[[12]]")
	finds(t, append(ring, same(1, 60), lookVar(30, "xc", 61), take(31, 0)), 1, p, 12, "[[2]]")
	finds(t, append(ring, same(1, 60), lookVar(30, "xc", 61), lookVar(31, "xd", 61)), 0, p, 12, "[]")
}
