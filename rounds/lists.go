package rounds

import "sorrel/api"

// made is what a function makes of each item of a list, in a list of its own.
func made[A, B any](list []A, one func(A) B) []B {
	var out []B
	for _, item := range list {
		out = append(out, one(item))
	}
	return out
}

// ordered is the items at some places of a list, in the order of the places.
func ordered[T any](list []T, places []int) []T {
	return made(places, func(place int) T { return list[place] })
}

// copyOf is a picture of its own with the same in it.
func copyOf(p api.Picture) api.Picture {
	same := func(number int) int { return number }
	node := func(n api.Node) api.Node {
		n.Kids = made(n.Kids, same)
		return n
	}
	class := func(c api.Class) api.Class { return api.Class{Nodes: made(c.Nodes, node), Size: c.Size} }
	return api.Picture{Classes: made(p.Classes, class), Roots: made(p.Roots, same)}
}
