package rules_test

import (
	"fmt"
	"math"
	"slices"
	"testing"

	"sorrel/api"
	"sorrel/rules"
)

// P17.3

// factsOfAllKinds is facts of every kind, also such as no expression has.
var factsOfAllKinds = []api.Fact{
	{}, {Total: true}, {Total: true, Const: true}, {Total: true, Const: true, N: 2}, {Total: true, Const: true, N: math.MinInt64},
	{Const: true}, {Const: true, N: -1}, {N: 5}, {Total: true, N: 5},
}

// holds holds what Holds answers.
func holds(t *testing.T, rule int, known []api.Fact, want bool, wantBad api.Errno) {
	t.Helper()
	if is, bad := rules.Holds(rule, known); is != want || bad != wantBad {
		t.Errorf("Holds(%d, %.100v): %v, %d, want %v, %d", rule, fmt.Sprint(known), is, bad, want, wantBad)
	}
}

func TestHoldsExamples(t *testing.T) {
	holds(t, 6, []api.Fact{{Total: true}}, true, api.OK)
	holds(t, 6, []api.Fact{{}}, false, api.OK)
	holds(t, 38, []api.Fact{{Total: true, Const: true, N: 2}, {}, {Total: true}}, true, api.OK)
}

// TestHolds: every rule, with facts of every kind in every hole.
func TestHolds(t *testing.T) {
	for i, r := range rows() {
		counts := map[bool]int{}
		each(len(r.holes()), len(factsOfAllKinds), func(list []int) {
			var known []api.Fact
			for _, k := range list {
				known = append(known, factsOfAllKinds[k])
			}
			want := r.hold(known)
			counts[want]++
			holds(t, i, known, want, api.OK)
		})
		if counts[true] == 0 || (counts[false] > 0) != (len(r.sides) > 0) {
			t.Errorf("%s: %v", r.name, counts)
		}
	}
}

// TestKindsOfSides: each kind, by the word that the table has for it.
func TestKindsOfSides(t *testing.T) {
	for name, want := range map[string][]bool{
		"rem-one":  {false, true, true, true, true, false, false, false, true},
		"div-self": {false, false, false, true, true, false, true, false, false},
	} {
		for i, f := range factsOfAllKinds {
			holds(t, named(name).number, []api.Fact{f}, want[i], api.OK)
		}
	}
	for i, want := range []bool{false, false, true, true, true, true, true, false, false} {
		for _, other := range factsOfAllKinds {
			holds(t, 16, []api.Fact{other, factsOfAllKinds[i]}, want, api.OK)
		}
	}
	sure, two := api.Fact{Total: true}, api.Fact{Total: true, Const: true, N: 2}
	// Both sides of if-true have to hold, and of no other hole is anything asked.
	holds(t, 38, []api.Fact{two, {}, {}}, false, api.OK)
	holds(t, 38, []api.Fact{sure, sure, sure}, false, api.OK)
	holds(t, 38, []api.Fact{{Total: true, Const: true}, two, two}, false, api.OK)
	holds(t, 38, []api.Fact{two, two, {}}, false, api.OK)
}

// noRules is numbers that are no rule's.
var noRules = []int{-1, 44, 45, 63, 64, -44, math.MaxInt, math.MinInt, 1 << 32, 1<<32 + 6}

func TestHoldsErrors(t *testing.T) {
	for i, r := range rows() {
		for many := range 6 {
			if many != len(r.holes()) {
				holds(t, i, make([]api.Fact, many), false, api.ErrArg)
				holds(t, i, slices.Repeat([]api.Fact{{Total: true, Const: true, N: 1}}, many), false, api.ErrArg)
			}
		}
		holds(t, i, nil, false, api.ErrArg)
		holds(t, i, make([]api.Fact, 1<<16), false, api.ErrArg)
	}
	for _, k := range noRules {
		for many := range 4 {
			holds(t, k, make([]api.Fact, many), false, api.ErrArg)
		}
	}
}
