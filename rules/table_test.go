package rules_test

import (
	"slices"
	"strings"
	"testing"

	"sorrel/api"
	"sorrel/pattern"
	"sorrel/rules"
	"sorrel/show"
)

// P17.1

// kinds is the kinds of the sides, by the table's words.
var kinds = map[string]int{"Total": api.SideTotal, "Const": api.SideConst, "Nonzero": api.SideNonzero}

// TestTable: the whole table, rule by rule.
func TestTable(t *testing.T) {
	all := rules.All()
	if len(all) != 44 || len(rows()) != 44 {
		t.Fatalf("%d rules, %d rows", len(all), len(rows()))
	}
	for i, want := range rows() {
		rule := all[i]
		if want.number != i || rule.Name != want.name {
			t.Errorf("rule %d is %q, want %q, %d", i, rule.Name, want.name, want.number)
		}
		if text(rule.Left) != text(pat(t, want.left)) || text(rule.Right) != text(pat(t, want.right)) {
			t.Errorf("%s: %s %s", want.name, text(rule.Left), text(rule.Right))
		}
		var sides []api.Side
		for _, s := range want.sides {
			sides = append(sides, api.Side{Kind: kinds[s.word], Hole: slices.Index(want.holes(), s.hole)})
		}
		if !slices.Equal(rule.Sides, sides) {
			t.Errorf("%s: the sides %v, want %v", want.name, rule.Sides, sides)
		}
	}
}

// TestHolesOfTheTable: they are numbered by the left sides, and the right sides have no others.
func TestHolesOfTheTable(t *testing.T) {
	for i, rule := range rules.All() {
		left, _ := pattern.Holes(rule.Left)
		right, bad := pattern.Holes(rule.Right)
		strange := func(name string) bool { return !slices.Contains(left, name) }
		if want := rows()[i].holes(); !slices.Equal(left, want) || bad != api.OK || slices.ContainsFunc(right, strange) {
			t.Errorf("%s: the holes are %q and %q, want %q", rule.Name, left, right, want)
		}
	}
}

// TestTableAsTrees: those whose texts have brackets, numbers below zero, or signs of several ranks.
func TestTableAsTrees(t *testing.T) {
	all := rules.All()
	for name, want := range map[string][2]string{
		"add-assoc": {"(add (add @a @b) @c)", "(add @a (add @b @c))"},
		"neg-mul":   {"(neg @a)", "(mul @a -1)"},
		"neg-neg":   {"(neg (neg @a))", "@a"},
		"gather":    {"(add (mul @a @b) (mul @a @c))", "(mul @a (add @b @c))"},
		"unshift":   {"(shl @a @n)", "(mul @a (shl 1 @n))"},
		"and-ones":  {"(and @a -1)", "@a"},
		"morgan":    {"(not (and @a @b))", "(or (not @a) (not @b))"},
		"not-neg":   {"(not @a)", "(sub (neg @a) 1)"},
		"div-rem":   {"(add (mul (div @a @b) @b) (rem @a @b))", "@a"},
		"if-true":   {"(if @c @a @b)", "@a"},
		"if-false":  {"(if 0 @a @b)", "@b"},
		"absorb":    {"(and @a (or @a @b))", "@a"},
	} {
		rule := all[named(name).number]
		left, _ := show.Lisp(rule.Left)
		right, _ := show.Lisp(rule.Right)
		if left != want[0] || right != want[1] {
			t.Errorf("%s: %s, %s", name, left, right)
		}
	}
}

// TestSidesOfTheTable: all that have any.
func TestSidesOfTheTable(t *testing.T) {
	want := map[string][]api.Side{
		"mul-zero": {{Kind: api.SideTotal}}, "sub-self": {{Kind: api.SideTotal}}, "xor-self": {{Kind: api.SideTotal}},
		"and-zero": {{Kind: api.SideTotal}}, "rem-one": {{Kind: api.SideTotal}}, "eq-self": {{Kind: api.SideTotal}},
		"lt-self": {{Kind: api.SideTotal}}, "if-false": {{Kind: api.SideTotal}}, "if-same": {{Kind: api.SideTotal}},
		"absorb": {{Kind: api.SideTotal, Hole: 1}}, "unshift": {{Kind: api.SideConst, Hole: 1}},
		"div-self": {{Kind: api.SideNonzero}}, "div-rem": {{Kind: api.SideNonzero, Hole: 1}},
		"if-true": {{Kind: api.SideNonzero}, {Kind: api.SideTotal, Hole: 2}},
	}
	for _, rule := range rules.All() {
		if !slices.Equal(rule.Sides, want[rule.Name]) {
			t.Errorf("%s: %v, want %v", rule.Name, rule.Sides, want[rule.Name])
		}
	}
}

// P17.2

// numbers holds what Named answers.
func numbers(t *testing.T, name string, want int, wantBad api.Errno) {
	t.Helper()
	if k, bad := rules.Named(name); k != want || bad != wantBad {
		t.Errorf("Named(%q): %d, %d, want %d, %d", name, k, bad, want, wantBad)
	}
}

// masks holds what Mask answers.
func masks(t *testing.T, want uint64, wantBad api.Errno, names ...string) {
	t.Helper()
	if mask, bad := rules.Mask(names...); mask != want || bad != wantBad {
		t.Errorf("Mask(%.100q): %d, %d, want %d, %d", names, mask, bad, want, wantBad)
	}
}

func TestNamesExamples(t *testing.T) {
	numbers(t, "twice", 14, api.OK)
	numbers(t, "all", 0, api.ErrName)
	masks(t, 16385, api.OK, "add-comm", "twice")
	masks(t, 0, api.OK)
	masks(t, 0, api.OK, "none")
	masks(t, 1<<44-1, api.OK, "all")
}

// strangers is texts that name no rule.
func strangers() []string {
	list := []string{"", " ", "-", "add", "comm", "add-", "-comm", "addcomm", "add_comm", "add--comm", "Add-comm", "ADD-COMM", "add-com", "add-comm2", "add-comm ", " add-comm", "add-comm\n", "add-comm\x00", "add-comm add-assoc", "add−comm", "@a + @b", "0", "44", "every", "ALL", "NONE", "all ", "nonee", "\xff", "add-comm\xff", "größe", strings.Repeat("add-comm", 1<<16)}
	for _, r := range rows() {
		list = append(list, r.name+"x", r.name[3:], r.name[:len(r.name)-1], strings.ToUpper(r.name), r.left, r.right)
	}
	return list
}

func TestNamed(t *testing.T) {
	for i, r := range rows() {
		numbers(t, r.name, i, api.OK)
	}
	for _, s := range strangers() {
		numbers(t, s, 0, api.ErrName)
	}
	numbers(t, "none", 0, api.ErrName)
}

// TestMaskOfOne: each name by itself, and beside itself, all and none.
func TestMaskOfOne(t *testing.T) {
	for i, r := range rows() {
		masks(t, 1<<i, api.OK, r.name)
		masks(t, 1<<i, api.OK, r.name, r.name)
		masks(t, 1<<i, api.OK, r.name, "none")
		masks(t, 1<<i, api.OK, "none", r.name, "none", r.name)
		masks(t, 1<<44-1, api.OK, r.name, "all")
		masks(t, 1<<44-1, api.OK, "all", r.name)
	}
	masks(t, 1<<44-1, api.OK, "all", "all")
	masks(t, 1<<44-1, api.OK, "none", "all", "none")
	masks(t, 0, api.OK, "none", "none")
	masks(t, 0, api.OK, []string{}...)
}

// TestMaskOfSeveral: in any row, each as often as one likes.
func TestMaskOfSeveral(t *testing.T) {
	var names []string
	var want uint64
	for i, r := range rows() {
		names, want = append(names, r.name), want|1<<i
		masks(t, want, api.OK, names...)
		back := slices.Clone(names)
		slices.Reverse(back)
		masks(t, want, api.OK, append(back, names...)...)
	}
	masks(t, 1<<0|1<<43|1<<31|1<<32, api.OK, "shr-zero", "div-self", "add-comm", "div-one", "add-comm")
	masks(t, want, api.OK, slices.Repeat(names, 1000)...)
}

// TestMaskOfStrangers: one that names nothing is enough, wherever it stands.
func TestMaskOfStrangers(t *testing.T) {
	for _, s := range strangers() {
		masks(t, 0, api.ErrName, s)
		masks(t, 0, api.ErrName, "all", s)
		masks(t, 0, api.ErrName, s, "all")
		masks(t, 0, api.ErrName, "none", s, "none")
		masks(t, 0, api.ErrName, "twice", s, "add-comm")
	}
	masks(t, 0, api.ErrName, append(slices.Repeat([]string{"all"}, 1000), "twices")...)
}
