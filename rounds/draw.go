package rounds

import (
	"cmp"
	"slices"

	"sorrel/api"
	"sorrel/runes"
)

// drawing is a picture in the making.
type drawing struct {
	*web
	members [][]knot // of each class its knots
	sizes   []int    // of each class's least expression; MaxSize, if it is that or more
	order   []int    // the classes that stand, by their least expressions
	numbers []int    // the place of each in that
}

// draw is the picture of a web, with roots, or why there is none.
func (w *web) draw(roots []int) (api.Picture, int) {
	d := drawing{web: w, order: w.standing(), numbers: make([]int, len(w.up))}
	if len(d.order) > api.MaxClasses || len(w.places) > api.MaxNodes {
		return api.Picture{}, api.EndNodes
	}
	d.gather()
	d.measure()
	for _, class := range d.order {
		if d.sizes[class] >= api.MaxSize {
			return api.Picture{}, api.EndSize
		}
	}
	d.arrange()
	return api.Picture{Classes: ordered(d.classes(), d.order), Roots: made(roots, d.number)}, 0
}

// standing is the classes that stand.
func (w *web) standing() []int {
	var list []int
	for class, up := range w.up {
		if up == class {
			list = append(list, class)
		}
	}
	return list
}

// gather brings together the knots of each class.
func (d *drawing) gather() {
	d.members = make([][]knot, len(d.up))
	for place, k := range d.knots {
		if class := d.home(place); class != none {
			d.members[class] = append(d.members[class], k)
		}
	}
}

// measure finds the sizes: they fall till none does.
func (d *drawing) measure() {
	d.sizes = slices.Repeat([]int{api.MaxSize}, len(d.up))
	for falls := true; falls; {
		falls = false
		for _, class := range d.order {
			for _, k := range d.members[class] {
				if size := d.size(k); size < d.sizes[class] {
					d.sizes[class], falls = size, true
				}
			}
		}
	}
}

// size is the size of a knot's least expression.
func (d *drawing) size(k knot) int {
	size := 1
	for _, kid := range k.kids[:k.parts] {
		size += d.sizes[kid]
	}
	return size
}

// arrange brings the classes into their order. The parts of an expression are smaller than the whole, so the classes of its parts have numbers by the time those of one size are held against each other.
func (d *drawing) arrange() {
	slices.SortFunc(d.order, func(a, b int) int { return cmp.Compare(d.sizes[a], d.sizes[b]) })
	for from := 0; from < len(d.order); {
		size := d.sizes[d.order[from]]
		to := from
		for to < len(d.order) && d.sizes[d.order[to]] == size {
			to++
		}
		d.arrangeAlike(from, to)
		from = to
	}
}

// arrangeAlike brings the classes from one place to another, which are of one size, into their order.
func (d *drawing) arrangeAlike(from, to int) {
	type leader struct {
		class int
		least knot // of the class's least expression
	}
	alike := made(d.order[from:to], func(class int) leader { return leader{class, d.least(class)} })
	slices.SortFunc(alike, func(a, b leader) int { return compare(a.least, b.least) })
	for i, l := range alike {
		d.order[from+i] = l.class
		d.numbers[l.class] = from + i
	}
}

// least is the knot of a class's least expression. Its kids are numbers.
func (d *drawing) least(class int) knot {
	var list []knot
	for _, k := range d.members[class] {
		if d.size(k) == d.sizes[class] {
			list = append(list, k.with(d.number))
		}
	}
	return slices.MinFunc(list, compare)
}

// compare tells which of two knots comes first, by their kids' numbers, where they are in one class or come to one size.
func compare(a, b knot) int {
	return cmp.Or(
		cmp.Compare(a.op, b.op),
		cmp.Compare(a.n, b.n),
		runes.Order(a.name, b.name),
		slices.Compare(a.kids[:], b.kids[:]),
	)
}

// number is the place of a class in the picture.
func (d *drawing) number(class int) int { return d.numbers[d.stands(class)] }

// classes is what the picture has of each class.
func (d *drawing) classes() []api.Class {
	list := make([]api.Class, len(d.up))
	for _, class := range d.order {
		knots := made(d.members[class], func(k knot) knot { return k.with(d.number) })
		slices.SortFunc(knots, compare)
		list[class] = api.Class{Nodes: made(knots, knot.node), Size: d.sizes[class]}
	}
	return list
}

// node is the node of a knot.
func (k knot) node() api.Node {
	return api.Node{Op: k.op, N: k.n, Name: k.name, Kids: slices.Clone(k.kids[:k.parts])}
}
