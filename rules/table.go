package rules

import (
	"slices"

	"sorrel/api"
	"sorrel/parse"
	"sorrel/pattern"
)

// line is a line of the document's table, whose texts are patterns as parse reads them.
type line struct {
	name, left, right string
	sides             []side
}

// side is a condition on a hole, by its name.
type side struct {
	kind int
	hole string
}

// table is the document's table. The number of a rule is the place of its line.
func table() []line {
	return []line{
		{"add-comm", "@a + @b", "@b + @a", nil},
		{"add-assoc", "(@a + @b) + @c", "@a + (@b + @c)", nil},
		{"mul-comm", "@a * @b", "@b * @a", nil},
		{"mul-assoc", "(@a * @b) * @c", "@a * (@b * @c)", nil},
		{"add-zero", "@a + 0", "@a", nil},
		{"mul-one", "@a * 1", "@a", nil},
		{"mul-zero", "@a * 0", "0", []side{{api.SideTotal, "a"}}},
		{"sub-self", "@a - @a", "0", []side{{api.SideTotal, "a"}}},
		{"sub-add", "@a - @b", "@a + -@b", nil},
		{"neg-neg", "--@a", "@a", nil},
		{"neg-mul", "-@a", "@a * -1", nil},
		{"mul-neg", "@a * -1", "-@a", nil},
		{"spread", "@a * (@b + @c)", "@a * @b + @a * @c", nil},
		{"gather", "@a * @b + @a * @c", "@a * (@b + @c)", nil},
		{"twice", "@a + @a", "@a * 2", nil},
		{"shift", "@a * 2", "@a << 1", nil},
		{"unshift", "@a << @n", "@a * (1 << @n)", []side{{api.SideConst, "n"}}},
		{"and-self", "@a & @a", "@a", nil},
		{"or-self", "@a | @a", "@a", nil},
		{"xor-self", "@a ^ @a", "0", []side{{api.SideTotal, "a"}}},
		{"and-comm", "@a & @b", "@b & @a", nil},
		{"or-comm", "@a | @b", "@b | @a", nil},
		{"xor-comm", "@a ^ @b", "@b ^ @a", nil},
		{"and-zero", "@a & 0", "0", []side{{api.SideTotal, "a"}}},
		{"and-ones", "@a & -1", "@a", nil},
		{"or-zero", "@a | 0", "@a", nil},
		{"xor-zero", "@a ^ 0", "@a", nil},
		{"not-not", "~~@a", "@a", nil},
		{"morgan", "~(@a & @b)", "~@a | ~@b", nil},
		{"xor-ones", "@a ^ -1", "~@a", nil},
		{"not-neg", "~@a", "-@a - 1", nil},
		{"div-one", "@a / 1", "@a", nil},
		{"div-self", "@a / @a", "1", []side{{api.SideNonzero, "a"}}},
		{"rem-one", "@a % 1", "0", []side{{api.SideTotal, "a"}}},
		{"div-rem", "@a / @b * @b + @a % @b", "@a", []side{{api.SideNonzero, "b"}}},
		{"eq-self", "@a == @a", "1", []side{{api.SideTotal, "a"}}},
		{"lt-self", "@a < @a", "0", []side{{api.SideTotal, "a"}}},
		{"eq-comm", "@a == @b", "@b == @a", nil},
		{"if-true", "@c ? @a : @b", "@a", []side{{api.SideNonzero, "c"}, {api.SideTotal, "b"}}},
		{"if-false", "0 ? @a : @b", "@b", []side{{api.SideTotal, "a"}}},
		{"if-same", "@c ? @a : @a", "@a", []side{{api.SideTotal, "c"}}},
		{"absorb", "@a & (@a | @b)", "@a", []side{{api.SideTotal, "b"}}},
		{"shl-zero", "@a << 0", "@a", nil},
		{"shr-zero", "@a >> 0", "@a", nil},
	}
}

// rule is the rule that a line writes.
func (l line) rule() api.Rule {
	left, _, _ := parse.Pattern(l.left)
	right, _, _ := parse.Pattern(l.right)
	r := api.Rule{Name: l.name, Left: left, Right: right}
	holes, _ := pattern.Holes(left)
	for _, s := range l.sides {
		r.Sides = append(r.Sides, api.Side{Kind: s.kind, Hole: slices.Index(holes, s.hole)})
	}
	return r
}
