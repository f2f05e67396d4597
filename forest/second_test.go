package forest_test

import (
	"slices"

	"sorrel/api"
)

// The second reckoning: a list of joints and nothing else, which is searched anew for each question.

// joint is one that was made.
type joint struct {
	a, b int
	why  any
}

type plain struct {
	many   int
	joints []joint
}

// reach is all members that one comes to from a, rising: as many as come to be marked till a pass through the joints marks none.
func (p *plain) reach(a int) []int {
	marked := make([]bool, p.many)
	marked[a] = true
	for more := true; more; {
		more = false
		for _, j := range p.joints {
			if marked[j.a] != marked[j.b] {
				marked[j.a], marked[j.b], more = true, true, true
			}
		}
	}
	var l []int
	for m, is := range marked {
		if is {
			l = append(l, m)
		}
	}
	return l
}

func (p *plain) same(a, b int) bool { return slices.Contains(p.reach(a), b) }

// join tells whether the joint is kept.
func (p *plain) join(a, b int, why any) bool {
	if p.same(a, b) {
		return false
	}
	p.joints = append(p.joints, joint{a, b, why})
	return true
}

// ways is the way from a to each member, by going on from there in all directions but back; no entry where there is none.
func (p *plain) ways(a int) map[int][]api.Edge {
	found := map[int][]api.Edge{a: nil}
	for front := []int{a}; len(front) > 0; front = front[1:] {
		m := front[0]
		for _, j := range p.joints {
			var e api.Edge
			switch m {
			case j.a:
				e = api.Edge{From: j.a, To: j.b, Why: j.why}
			case j.b:
				e = api.Edge{From: j.b, To: j.a, Why: j.why, Back: true}
			default:
				continue
			}
			if _, was := found[e.To]; !was {
				found[e.To] = append(slices.Clone(found[m]), e)
				front = append(front, e.To)
			}
		}
	}
	return found
}
