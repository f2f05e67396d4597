package machine

import (
	"slices"

	"sorrel/api"
)

// What is known of a step and the classes in its needs: whether a run from there comes to the end.
const (
	fails = iota
	comes
)

// row is the class in each slot, none where it is not known.
type row []int

// some is some of a node's Kids, and 0 in the place of each other one.
type some [maxParts]int

// run is all lists that runs at a class find, or, if there are more than MaxFound, more than so many of them.
func (r *reading) run(classes []api.Class, class int) lists {
	known := make([]bool, len(r.slots))
	known[0] = true
	p := planner{holes: r.holes}
	steps := p.plan(r.looks, known)
	start := row(slices.Repeat([]int{none}, len(r.slots)))
	start[0] = class
	if !allCome(steps, classes, start) {
		return nil
	}
	return search(finders(steps), classes, start, r.holes)
}

// allCome tells whether runs through each of these steps come to their end.
func allCome(steps []*step, classes []api.Class, at row) bool {
	return !slices.ContainsFunc(steps, func(s *step) bool { return s.end(classes, at) == fails })
}

// end tells whether a run through a step comes to its end.
func (s *step) end(classes []api.Class, at row) int {
	key := at.text(s.needs)
	end, told := s.ends[key]
	if told {
		return end
	}
	for _, kids := range s.fitting(classes, at) {
		if allCome(s.next, classes, at.with(s.want.Kids, kids)) {
			end = comes
			break
		}
	}
	s.ends[key] = end
	return end
}

// fitting is the Kids of the nodes that a step can take; of several that are the same to all that follows, the first alone.
func (s *step) fitting(classes []api.Class, at row) lists {
	class := at[s.of]
	if s.fits[class] == nil {
		s.fits[class] = s.sorted(classes[class].Nodes)
	}
	return s.fits[class][pick(at.classes(s.want.Kids), s.asks)]
}

// sorted is the Kids of the nodes that are as a step wants them, by those of them that have to be what is known already.
func (s *step) sorted(nodes []api.Node) map[some]lists {
	fits := map[some]lists{}
	seen := map[[2]some]struct{}{}
	for _, n := range nodes {
		if !s.wants(n) {
			continue
		}
		key := pick(n.Kids, s.asks)
		both := [2]some{key, pick(n.Kids, s.shows)}
		if _, again := seen[both]; !again {
			seen[both] = struct{}{}
			fits[key] = append(fits[key], n.Kids)
		}
	}
	return fits
}

// wants tells whether a node is as a step wants it, by itself: of its Kids, those in one slot have to be one class.
func (s *step) wants(n api.Node) bool {
	if n.Op != s.want.Op || n.N != s.want.N || n.Name != s.want.Name {
		return false
	}
	for i, slot := range s.want.Kids {
		if n.Kids[i] != n.Kids[slices.Index(s.want.Kids, slot)] {
			return false
		}
	}
	return true
}

// pick is some of a node's Kids.
func pick(kids []int, which [maxParts]bool) some {
	var picked some
	for i, kid := range kids {
		if which[i] {
			picked[i] = kid
		}
	}
	return picked
}

// text tells the classes in some slots: one character for each.
func (at row) text(slots []int) string {
	var list []rune
	for _, class := range at.classes(slots) {
		list = append(list, rune(class+1))
	}
	return string(list)
}

// classes is the classes in some slots.
func (at row) classes(slots []int) []int {
	list := make([]int, len(slots))
	for i, slot := range slots {
		list[i] = at[slot]
	}
	return list
}

// place is where a search is: at a row, with steps open. From each of them runs come to their end.
type place struct {
	row
	open []*step
}

// text is the same for two places, if what is found from the one is found from the other.
func (at place) text(slots []int) string {
	text := at.row.text(slots)
	for _, s := range at.open {
		text += string(rune(s.number)) + at.row.text(s.needs)
	}
	return text
}

// search is the classes that some slots can be, where steps are open, each list once. It is left when there are more than MaxFound: each place leads to a list, so there are too many for the whole, too.
func search(open []*step, classes []api.Class, from row, slots []int) lists {
	if len(open) == 0 {
		return lists{from.classes(slots)}
	}
	var found lists
	seen := map[string]struct{}{}
	todo := []place{{from, open}}
search:
	for len(todo) > 0 {
		at := todo[len(todo)-1]
		todo = todo[:len(todo)-1]
		for _, next := range at.ahead(classes) {
			key := next.text(slots)
			if _, again := seen[key]; again {
				continue
			}
			seen[key] = struct{}{}
			if len(next.open) > 0 {
				todo = append(todo, next)
				continue
			}
			found = append(found, next.classes(slots))
			if len(found) > api.MaxFound {
				break search
			}
		}
	}
	return found
}

// ahead is the places behind a place.
func (at place) ahead(classes []api.Class) []place {
	if len(at.open) > 1 {
		return each(at.open, classes, at.row)
	}
	var list []place
	s := at.open[0]
	for _, kids := range s.fitting(classes, at.row) {
		if behind := at.with(s.want.Kids, kids); allCome(s.next, classes, behind) {
			list = append(list, place{behind, s.open})
		}
	}
	return list
}

// each is the places behind several steps: all that the one finds beside all that the others find, or more than MaxFound of them.
func each(open []*step, classes []api.Class, at row) []place {
	list := []place{{row: at}}
	for _, s := range open {
		var more []place
		for _, found := range s.find(classes, at) {
			for _, p := range list {
				if len(more) <= api.MaxFound {
					more = append(more, place{row: p.with(s.finds, found)})
				}
			}
		}
		list = more
	}
	return list
}

// find is what a step finds of its slots.
func (s *step) find(classes []api.Class, at row) lists {
	key := at.text(s.needs)
	if _, told := s.lists[key]; !told {
		s.lists[key] = search([]*step{s}, classes, at, s.finds)
	}
	return s.lists[key]
}

// with is a row with classes in some slots.
func (at row) with(slots, classes []int) row {
	own := slices.Clone(at)
	for i, slot := range slots {
		own[slot] = classes[i]
	}
	return own
}
