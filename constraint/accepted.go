package constraint

import (
	"slices"

	"widgetry/api"
)

// bound demands that the variable to is at least the variable from plus distance. The variable -1 has the index 0 here, and each other one the index after its own.
type bound struct{ to, from, distance int }

// bounds returns what c demands.
func bounds(c api.Constraint) []bound {
	a, b := c.A+1, c.B+1
	atLeast, atMost := bound{a, b, c.C}, bound{b, a, -c.C}
	switch c.Relation {
	case api.RelationAtLeast:
		return []bound{atLeast}
	case api.RelationAtMost:
		return []bound{atMost}
	}
	return []bound{atLeast, atMost}
}

// accepted are constraints that have a solution.
type accepted struct {
	bounds []bound
	values []int // the least solution, by the indices of bound
}

func newAccepted(vars int) *accepted {
	return &accepted{values: make([]int, vars+1)}
}

// accept adds c if there is a solution with it, too, and reports whether there is one.
func (a *accepted) accept(c api.Constraint) bool {
	all := slices.Concat(a.bounds, bounds(c))
	// No solution of more constraints has a value that is less than the least one so far, so that the search begins there.
	values, ok := raise(a.values, all)
	if ok {
		a.bounds, a.values = all, values
	}
	return ok
}

// solution returns the least solution, without the variable -1.
func (a *accepted) solution() []int {
	return a.values[1:]
}

// raise returns the least values that satisfy all bounds and are not less than the given ones, and reports whether there are such values from 0 to MaxLength with 0 for the variable -1.
func raise(values []int, all []bound) ([]int, bool) {
	raised := slices.Clone(values)
	// Each round gives at least one more variable its final value, unless the bounds form a cycle that raises its variables for ever.
	for range raised {
		changed := false
		for _, b := range all {
			need := raised[b.from] + b.distance
			if need <= raised[b.to] {
				continue
			}
			if b.to == 0 || need > api.MaxLength {
				return nil, false
			}
			raised[b.to], changed = need, true
		}
		if !changed {
			return raised, true
		}
	}
	return nil, false
}
