package match

import (
	"slices"

	"sorrel/api"
)

// step is a relation of which a row is to be chosen that goes with what is known. Rows that are the same to what comes behind it stand together, as they lead on or fail together.
type step struct {
	relation
	asks  []int          // the columns whose slots are known ahead
	shows []int          // the columns whose slots are asked behind it
	needs []int          // the slots that are known ahead, and asked in it or behind it
	goals map[row][]row  // by what is asked: all that is shown
	fits  map[pair][]row // by both: the rows
}

// pair is what is asked of a step, and what it shows.
type pair struct{ asked, shown row }

// plan is a step for each relation, in an order in which each goes with few rows of the next.
func plan(list []relation) []step {
	var steps []step
	known := make([]bool, api.MaxPattern)
	for len(list) > 0 {
		at := next(list, known)
		s := step{relation: list[at], asks: columns(list[at], known)}
		for slot, is := range known {
			if is && asked(list, slot) {
				s.needs = append(s.needs, slot)
			}
		}
		list = slices.Delete(list, at, at+1)
		for column, slot := range s.slots {
			known[slot] = true
			if asked(list, slot) {
				s.shows = append(s.shows, column)
			}
		}
		s.arrange()
		steps = append(steps, s)
	}
	return steps
}

// columns is the columns of a relation whose slots are known.
func columns(r relation, known []bool) []int {
	var list []int
	for column, slot := range r.slots {
		if known[slot] {
			list = append(list, column)
		}
	}
	return list
}

// asked tells whether a slot is one of some relations'.
func asked(list []relation, slot int) bool {
	return slices.ContainsFunc(list, func(r relation) bool { return slices.Contains(r.slots, slot) })
}

// next is the place of the relation to go on with: that of which the fewest rows go with what is known, and, once something is known, one with a known slot. There always is one: relations of nodes hang together as the nodes do.
func next(list []relation, known []bool) int {
	best, bestRows, bestGroups := -1, 0, 0
	for i, r := range list {
		asks := columns(r, known)
		if len(asks) == 0 && slices.Contains(known, true) {
			continue
		}
		// Rows that are the same in what is known are a group: those that go with what is known are one group of them.
		rows, groups := len(r.rows), max(1, len(r.picked(asks)))
		if best < 0 || rows*bestGroups < bestRows*groups {
			best, bestRows, bestGroups = i, rows, groups
		}
	}
	return best
}

// arrange lays the rows of a step's relation by what is asked of it, and by what it shows.
func (s *step) arrange() {
	s.goals, s.fits = map[row][]row{}, map[pair][]row{}
	for _, x := range s.rows {
		p := pair{x.pick(s.asks), x.pick(s.shows)}
		if len(s.fits[p]) == 0 {
			s.goals[p.asked] = append(s.goals[p.asked], p.shown)
		}
		s.fits[p] = append(s.fits[p], x)
	}
}
