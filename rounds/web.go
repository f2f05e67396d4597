package rounds

import "sorrel/api"

// knot is all that tells a node from another, in a form that a map can find.
type knot struct {
	op    int
	n     int64
	name  string
	parts int    // how many of the kids count; the others are 0
	kids  [3]int // their classes
}

// knotOf is the knot of a node.
func knotOf(n api.Node) knot {
	k := knot{op: n.Op, n: n.N, name: n.Name, parts: len(n.Kids)}
	copy(k.kids[:], n.Kids)
	return k
}

// with is a knot with other kids.
func (k knot) with(other func(kid int) int) knot {
	for i, kid := range k.kids[:k.parts] {
		k.kids[i] = other(kid)
	}
	return k
}

// web is classes of nodes that are not held to the limits of pictures, since what a round lays into a picture may be beyond them till it is folded. Each knot is in it once, and its kids are classes that stand: so equal parts make equal knots. A class that has become one with another does not stand any more.
type web struct {
	knots  []knot       // by their places
	homes  []int        // the class that each was put into; none, where the knot is the same as another one since
	places map[knot]int // where each of those that have a home is
	up     []int        // of each class one that it has become, or itself, if it stands
	uses   [][]int      // of each class that stands the places of the knots that have it as a kid, as often as they do; some may have no home any more
}

// none is no class.
const none = -1

func newWeb() *web { return &web{places: map[knot]int{}} }

// begin is a new class, in which nothing is yet.
func (w *web) begin() int {
	class := len(w.up)
	w.up = append(w.up, class)
	w.uses = append(w.uses, nil)
	return class
}

// take puts a knot that is not there yet, and whose kids stand, into a class.
func (w *web) take(k knot, class int) {
	place := len(w.knots)
	w.knots = append(w.knots, k)
	w.homes = append(w.homes, class)
	w.places[k] = place
	for _, kid := range k.kids[:k.parts] {
		w.uses[kid] = append(w.uses[kid], place)
	}
}

// stands is the class that a class has become.
func (w *web) stands(class int) int {
	for w.up[class] != class {
		// Each time the way is cut by half, so that none stays long.
		w.up[class] = w.up[w.up[class]]
		class = w.up[class]
	}
	return class
}

// home is the class of the knot at a place; none, if it has no home any more.
func (w *web) home(place int) int {
	if w.homes[place] == none {
		return none
	}
	return w.stands(w.homes[place])
}

// class is the class of a knot, a new one if it is not there yet.
func (w *web) class(k knot) int {
	k = k.with(w.stands)
	if place, there := w.places[k]; there {
		return w.home(place)
	}
	class := w.begin()
	w.take(k, class)
	return class
}

// join makes two classes one, and then all that have to be one since.
func (w *web) join(a, b int) {
	twins := [][2]int{{a, b}}
	for len(twins) > 0 {
		last := twins[len(twins)-1]
		twins = twins[:len(twins)-1]
		lost, kept := w.stands(last[0]), w.stands(last[1])
		if lost != kept {
			twins = append(twins, w.link(lost, kept)...)
		}
	}
}

// link makes two classes that stand one. It answers pairs of classes that have the same knot since then.
func (w *web) link(lost, kept int) [][2]int {
	// The knots that use the lost one have to be put in anew, so that is the one with fewer of them.
	if len(w.uses[lost]) > len(w.uses[kept]) {
		lost, kept = kept, lost
	}
	w.up[lost] = kept
	var twins [][2]int
	for _, place := range w.uses[lost] {
		if w.homes[place] == none {
			continue
		}
		if other := w.renew(place); other != place {
			twins = append(twins, [2]int{w.homes[place], w.homes[other]})
			w.homes[place] = none
		}
	}
	w.uses[kept] = append(w.uses[kept], w.uses[lost]...)
	w.uses[lost] = nil
	return twins
}

// renew gives the knot at a place kids that stand. The answer is the place of the knot that it is then: another one, if there was such a knot already.
func (w *web) renew(place int) int {
	delete(w.places, w.knots[place])
	k := w.knots[place].with(w.stands)
	if other, there := w.places[k]; there {
		return other
	}
	w.knots[place] = k
	w.places[k] = place
	return place
}
