package match

import (
	"slices"

	"sorrel/api"
)

// Each node of a pattern has a slot, for the class at which it stands: its own place in the pattern, or, if it is a hole, the first place of a hole with its name. The pattern stands where each of its nodes but the holes has a node of the picture with the classes in their slots.

// width is how many columns a relation may have: for the class of a node, and for its Kids.
const width = 4

// row is classes, in columns.
type row [width]int

// relation is the classes that can be in some slots beside each other.
type relation struct {
	slots []int // of the columns
	rows  []row
}

// relations is all that has to hold where a pattern stands at one of some classes. Most of what can't hold, since it goes with no row of another relation, is not in them.
func relations(pat []api.Node, classes []api.Class, at []int) []relation {
	whole := relation{slots: []int{len(pat) - 1}}
	for _, class := range at {
		whole.rows = append(whole.rows, row{class})
	}
	list := []relation{whole}
	for i, n := range pat {
		if n.Op != api.OpHole {
			list = append(list, related(n, slotsOf(pat, i), classes))
		}
	}
	// What is taken out of one relation takes more out of the next. From each to each other one it is less far than there are relations; only in rings it could go on for long, and the search sees to those, too.
	for range list {
		if !reduced(list) {
			break
		}
	}
	return list
}

// slotsOf is the slots of a node that is no hole, and of its parts.
func slotsOf(pat []api.Node, place int) []int {
	list := []int{place}
	for _, kid := range pat[place].Kids {
		list = append(list, slotOf(pat, kid))
	}
	return list
}

// slotOf is the slot of the node at a place.
func slotOf(pat []api.Node, place int) int {
	n := pat[place]
	if n.Op != api.OpHole {
		return place
	}
	return slices.IndexFunc(pat, func(m api.Node) bool { return m.Op == api.OpHole && m.Name == n.Name })
}

// related is the relation of a node of a pattern: all nodes of a picture that are like it.
func related(want api.Node, slots []int, classes []api.Class) relation {
	r := relation{slots: slots}
	for class, c := range classes {
		for _, n := range c.Nodes {
			if !alike(n, want) {
				continue
			}
			x := row{class}
			copy(x[1:], n.Kids)
			if r.takes(x) {
				r.rows = append(r.rows, x)
			}
		}
	}
	return r
}

// takes tells whether a row has one class alone in each slot.
func (r relation) takes(x row) bool {
	for column, slot := range r.slots {
		if x[column] != x[slices.Index(r.slots, slot)] {
			return false
		}
	}
	return true
}

// reduced takes rows that can't hold out of relations; it tells whether there were any.
func reduced(list []relation) bool {
	some := false
	for i := range list {
		for j, other := range list {
			if i != j && list[i].reduce(other) {
				some = true
			}
		}
	}
	return some
}

// reduce takes the rows out of a relation that go with no row of another; it tells whether there were any.
func (r *relation) reduce(other relation) bool {
	own, others := common(r.slots, other.slots)
	if len(own) == 0 {
		return false
	}
	there := other.picked(others)
	many := len(r.rows)
	r.rows = slices.DeleteFunc(r.rows, func(x row) bool {
		_, goes := there[x.pick(own)]
		return !goes
	})
	return len(r.rows) < many
}

// common is the columns of the slots that two relations have in common, in the one and in the other.
func common(a, b []int) (inA, inB []int) {
	for column, slot := range a {
		if at := slices.Index(b, slot); at >= 0 {
			inA, inB = append(inA, column), append(inB, at)
		}
	}
	return inA, inB
}

// picked is all that stands in some columns.
func (r relation) picked(columns []int) map[row]struct{} {
	all := map[row]struct{}{}
	for _, x := range r.rows {
		all[x.pick(columns)] = struct{}{}
	}
	return all
}

// pick is the classes in some columns.
func (x row) pick(columns []int) row {
	var picked row
	for i, column := range columns {
		picked[i] = x[column]
	}
	return picked
}
