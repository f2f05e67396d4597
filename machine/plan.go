package machine

import "slices"

// step is a look, and what is to be looked at behind it. A run has as many ways as its looks have nodes, multiplied by each other; so that not all of them have to be gone through, what is left behind a step falls into parts that have no slot in common but known ones: each of them can be gone through by itself, and only once for the classes in the known slots.
type step struct {
	look
	number int
	needs  []int                  // the slots that are asked in it or behind it, and are known ahead
	finds  []int                  // the slots of holes that come to be known in it or behind it
	asks   [maxParts]bool         // which Kids have to be what is known ahead
	shows  [maxParts]bool         // which Kids are seen behind it
	next   []*step                // what is left, part by part
	open   []*step                // those of next that find a slot of a hole
	fits   map[int]map[some]lists // of each class that was looked at: the Kids of its nodes, by those that have to be what is known
	ends   map[string]int         // by the classes in the needs: whether a run comes to its end, as comes or fails
	lists  map[string]lists       // by the classes in the needs: what is found
}

// lists is lists of classes, for some slots.
type lists [][]int

// planner makes steps, and numbers them.
type planner struct {
	holes []int
	many  int
}

// plan is the steps for some looks, where some slots are known.
func (p *planner) plan(looks []look, known []bool) []*step {
	var steps []*step
	for len(looks) > 0 {
		var group []look
		group, looks = apart(looks, known)
		steps = append(steps, p.step(group, known))
	}
	return steps
}

// apart takes the first look, and those that hang together with it by slots that are not known, out of the rest.
func apart(looks []look, known []bool) (group, rest []look) {
	group, rest = []look{looks[0]}, looks[1:]
	for i := 0; i < len(group); i++ {
		var others []look
		for _, l := range rest {
			if tied(group[i], l, known) {
				group = append(group, l)
			} else {
				others = append(others, l)
			}
		}
		rest = others
	}
	return group, rest
}

// tied tells whether two looks have a slot in common that is not known.
func tied(a, b look, known []bool) bool {
	return slices.ContainsFunc(a.slots(), func(slot int) bool {
		return !known[slot] && slices.Contains(b.slots(), slot)
	})
}

// slots is all slots of a look.
func (l look) slots() []int { return append([]int{l.of}, l.want.Kids...) }

// step is the step for looks that hang together.
func (p *planner) step(group []look, known []bool) *step {
	at := first(group, known)
	s := &step{look: group[at], number: p.many, fits: map[int]map[some]lists{}, ends: map[string]int{}, lists: map[string]lists{}}
	p.many++
	for slot := range known {
		if !slices.ContainsFunc(group, func(l look) bool { return slices.Contains(l.slots(), slot) }) {
			continue
		}
		if known[slot] {
			s.needs = append(s.needs, slot)
		} else if slices.Contains(p.holes, slot) {
			s.finds = append(s.finds, slot)
		}
	}
	behind := slices.Clone(known)
	for _, slot := range s.want.Kids {
		behind[slot] = true
	}
	s.next = p.plan(slices.Delete(group, at, at+1), behind)
	s.open = finders(s.next)
	for i, slot := range s.want.Kids {
		s.asks[i], s.shows[i] = known[slot], s.sees(slot)
	}
	return s
}

// sees tells whether it makes a difference behind a step which class is in a slot that it makes known.
func (s *step) sees(slot int) bool {
	return slices.Contains(s.finds, slot) || slices.ContainsFunc(s.next, func(n *step) bool { return slices.Contains(n.needs, slot) })
}

// first is the place of the look to begin with: one at a known slot, with as few unknown ones as can be. There is one at a known slot: a slot that is not known was made by a look that is in the group, too, and the first of those is at a known one.
func first(group []look, known []bool) int {
	best, least := 0, len(known)
	for i, l := range group {
		if many := unknown(l, known); known[l.of] && many < least {
			best, least = i, many
		}
	}
	return best
}

// unknown is how many slots of a look are not known.
func unknown(l look, known []bool) int {
	many := 0
	for _, slot := range l.slots() {
		if !known[slot] {
			many++
		}
	}
	return many
}

// finders is the steps that find a slot of a hole.
func finders(steps []*step) []*step {
	var list []*step
	for _, s := range steps {
		if len(s.finds) > 0 {
			list = append(list, s)
		}
	}
	return list
}
