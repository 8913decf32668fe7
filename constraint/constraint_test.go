package constraint

import (
	"math"
	"slices"
	"testing"

	"widgetry/api"
)

const most = api.MaxLength

// Short names for relations and strengths.
const (
	atLeast = api.RelationAtLeast
	atMost  = api.RelationAtMost
	equal   = api.RelationEqual

	required = api.StrengthRequired
	strong   = api.StrengthStrong
	medium   = api.StrengthMedium
	weak     = api.StrengthWeak
)

// relate returns the constraint "a relation b + c".
func relate(a, relation, b, c, strength int) api.Constraint {
	return api.Constraint{A: a, B: b, Relation: relation, C: c, Strength: strength}
}

func same(a, b api.System) bool {
	return a.Vars == b.Vars && slices.Equal(a.L, b.L) && slices.Equal(a.Held, b.Held) && slices.Equal(a.Values, b.Values)
}

// deep returns a copy of s that shares no memory with it.
func deep(s api.System) api.System {
	return api.System{Vars: s.Vars, L: slices.Clone(s.L), Held: slices.Clone(s.Held), Values: slices.Clone(s.Values)}
}

// solveCase is a system with its solution, in which the constraints with the indices in rejected are not accepted.
type solveCase struct {
	name     string
	vars     int
	l        []api.Constraint
	values   []int
	rejected []int
}

func testSolve(t *testing.T, tests []solveCase) {
	t.Helper()
	for _, x := range tests {
		want := api.System{Vars: x.vars, L: slices.Clone(x.l), Held: slices.Repeat([]bool{true}, len(x.l)), Values: x.values}
		for _, i := range x.rejected {
			want.Held[i] = false
		}
		got, e := Solve(x.vars, x.l)
		if e != api.OK || !same(got, want) {
			t.Errorf("P20.2: %s: Solve(%d, %v) = %v, %d, want %v", x.name, x.vars, x.l, got, e, want)
		}
		if !slices.Equal(x.l, want.L) {
			t.Errorf("R2: %s: the argument has become %v", x.name, x.l)
		}
	}
}

// TestRelations contains systems in which all constraints are accepted.
func TestRelations(t *testing.T) {
	testSolve(t, []solveCase{
		{"nothing", 0, nil, nil, nil},
		{"no constraints", 3, nil, []int{0, 0, 0}, nil},
		{"an empty list", 1, []api.Constraint{}, []int{0}, nil},
		{"the example of the document", 2, []api.Constraint{relate(0, atLeast, -1, 5, required), relate(1, equal, 0, 10, weak)}, []int{5, 15}, nil},
		{"at least", 2, []api.Constraint{relate(0, atLeast, -1, 7, required)}, []int{7, 0}, nil},
		{"at least a negative number", 1, []api.Constraint{relate(0, atLeast, -1, -7, required)}, []int{0}, nil},
		{"at most", 2, []api.Constraint{relate(0, atMost, -1, 7, required)}, []int{0, 0}, nil},
		{"at most a variable", 2, []api.Constraint{relate(0, atLeast, -1, 9, required), relate(0, atMost, 1, 2, required)}, []int{9, 7}, nil},
		{"at most less than a variable", 2, []api.Constraint{relate(0, atLeast, -1, 9, required), relate(0, atMost, 1, -2, required)}, []int{9, 11}, nil},
		{"equal", 2, []api.Constraint{relate(1, equal, -1, 7, required)}, []int{0, 7}, nil},
		{"equal, raised on the right side", 2, []api.Constraint{relate(0, equal, 1, 7, required), relate(0, atLeast, -1, 9, required)}, []int{9, 2}, nil},
		{"equal, raised on the left side", 2, []api.Constraint{relate(0, equal, 1, 7, required), relate(1, atLeast, -1, 9, required)}, []int{16, 9}, nil},
		{"equal with a negative number", 2, []api.Constraint{relate(0, equal, 1, -7, required)}, []int{0, 7}, nil},
		{"0 at most a variable", 1, []api.Constraint{relate(-1, atMost, 0, -4, required)}, []int{4}, nil},
		{"0 equal to a variable", 1, []api.Constraint{relate(-1, equal, 0, -4, required)}, []int{4}, nil},
		{"0 at least a variable", 2, []api.Constraint{relate(-1, atLeast, 0, -4, required), relate(0, atLeast, 1, 1, required)}, []int{1, 0}, nil},
		{"from both sides", 1, []api.Constraint{relate(0, atLeast, -1, 4, required), relate(0, atMost, -1, 4, required)}, []int{4}, nil},
		{"numbers alone", 0, []api.Constraint{relate(-1, atLeast, -1, 0, required), relate(-1, atMost, -1, 0, required), relate(-1, equal, -1, 0, required), relate(-1, atLeast, -1, -3, required), relate(-1, atMost, -1, 3, required)}, nil, nil},
		{"a variable and itself", 1, []api.Constraint{relate(0, atLeast, 0, 0, required), relate(0, atMost, 0, 0, required), relate(0, equal, 0, 0, required), relate(0, atLeast, 0, -3, required), relate(0, atMost, 0, 3, required)}, []int{0}, nil},
		{"the same constraint twice", 1, []api.Constraint{relate(0, equal, -1, 4, required), relate(0, equal, -1, 4, weak)}, []int{4}, nil},
		{"the greater of two", 1, []api.Constraint{relate(0, atLeast, -1, 4, weak), relate(0, atLeast, -1, 6, required), relate(0, atLeast, -1, 5, strong)}, []int{6}, nil},
		{"a chain", 4, []api.Constraint{relate(3, atLeast, 2, 30, required), relate(2, equal, 1, 20, required), relate(0, atMost, 1, -10, required), relate(0, atLeast, -1, 1, required)}, []int{1, 11, 31, 61}, nil},
		{"the longer of two ways", 4, []api.Constraint{relate(1, atLeast, 0, 5, required), relate(2, atLeast, 0, 1, required), relate(3, atLeast, 1, 2, required), relate(3, atLeast, 2, 7, required), relate(0, atLeast, -1, 10, required)}, []int{10, 15, 11, 18}, nil},
		{"a cycle without a sum", 3, []api.Constraint{relate(1, atLeast, 0, 5, required), relate(2, atLeast, 1, 2, required), relate(0, atLeast, 2, -7, required), relate(1, atLeast, -1, 3, required)}, []int{0, 5, 7}, nil},
	})
}

// TestRejected contains systems in which constraints exclude each other.
func TestRejected(t *testing.T) {
	testSolve(t, []solveCase{
		{"the first one of equal strengths", 1, []api.Constraint{relate(0, equal, -1, 4, weak), relate(0, equal, -1, 5, weak), relate(0, equal, -1, 4, weak)}, []int{4}, []int{1}},
		{"strong before medium", 1, []api.Constraint{relate(0, equal, -1, 4, medium), relate(0, equal, -1, 5, strong)}, []int{5}, []int{0}},
		{"medium before weak", 1, []api.Constraint{relate(0, equal, -1, 4, weak), relate(0, equal, -1, 5, medium)}, []int{5}, []int{0}},
		{"required before strong", 1, []api.Constraint{relate(0, equal, -1, 4, strong), relate(0, equal, -1, 5, required)}, []int{5}, []int{0}},
		{"all strengths", 1, []api.Constraint{relate(0, equal, -1, 1, weak), relate(0, equal, -1, 2, medium), relate(0, equal, -1, 3, strong), relate(0, equal, -1, 4, required)}, []int{4}, []int{0, 1, 2}},
		{"all strengths without required", 1, []api.Constraint{relate(0, equal, -1, 1, weak), relate(0, equal, -1, 2, medium), relate(0, equal, -1, 3, strong)}, []int{3}, []int{0, 1}},
		// The constraints of one strength do not outvote a stronger one, nor an earlier one of their own.
		{"many weaker ones", 3, []api.Constraint{relate(0, equal, -1, 5, weak), relate(1, equal, 0, 1, weak), relate(2, equal, 0, 2, weak), relate(0, equal, -1, 9, strong), relate(1, equal, -1, 6, medium), relate(2, equal, -1, 7, medium)}, []int{9, 6, 7}, []int{0, 1, 2}},
		// What is rejected leaves no trace in the values, also where it was half satisfied.
		{"no trace", 3, []api.Constraint{relate(0, atMost, -1, 10, required), relate(1, atLeast, 0, 5, strong), relate(0, equal, 1, 20, medium), relate(2, atLeast, 1, 1, weak)}, []int{0, 5, 6}, []int{2}},
		{"no trace of a chain", 4, []api.Constraint{relate(1, atLeast, 0, 1, required), relate(2, atLeast, 1, 1, required), relate(3, atLeast, 2, 1, required), relate(3, atMost, -1, 9, required), relate(0, atLeast, -1, 7, strong), relate(0, atLeast, -1, 6, strong)}, []int{6, 7, 8, 9}, []int{4}},
		// A rejected constraint does not stand in the way of a later one.
		{"no hindrance", 2, []api.Constraint{relate(0, equal, -1, 5, required), relate(1, equal, 0, -6, weak), relate(1, equal, 0, 3, weak)}, []int{5, 8}, []int{1}},
		{"less than nothing", 1, []api.Constraint{relate(0, atMost, -1, -1, weak), relate(0, equal, -1, -1, weak), relate(-1, atLeast, 0, 1, weak)}, []int{0}, []int{0, 1, 2}},
		{"numbers alone", 0, []api.Constraint{relate(-1, atLeast, -1, 1, weak), relate(-1, atMost, -1, -1, medium), relate(-1, equal, -1, 1, strong), relate(-1, equal, -1, -1, strong)}, nil, []int{0, 1, 2, 3}},
		{"a variable and itself", 1, []api.Constraint{relate(0, atLeast, 0, 1, weak), relate(0, atMost, 0, -1, weak), relate(0, equal, 0, 1, weak), relate(0, equal, 0, -1, weak)}, []int{0}, []int{0, 1, 2, 3}},
		{"a cycle with a sum", 3, []api.Constraint{relate(1, atLeast, 0, 5, weak), relate(2, atLeast, 1, 2, weak), relate(0, atLeast, 2, -6, weak)}, []int{0, 5, 7}, []int{2}},
		{"two that are each less", 2, []api.Constraint{relate(0, atMost, 1, -1, weak), relate(1, atMost, 0, -1, weak)}, []int{0, 1}, []int{1}},
		// Only the constraints of both together contradict the third one.
		{"three together", 2, []api.Constraint{relate(0, atLeast, -1, 5, medium), relate(1, atLeast, 0, 5, medium), relate(1, atMost, -1, 9, medium)}, []int{5, 10}, []int{2}},
	})
}

// TestGreatest contains values and numbers at the limits.
func TestGreatest(t *testing.T) {
	testSolve(t, []solveCase{
		{"the greatest value", 1, []api.Constraint{relate(0, atLeast, -1, most, required)}, []int{most}, nil},
		{"the greatest value exactly", 1, []api.Constraint{relate(0, equal, -1, most, required)}, []int{most}, nil},
		{"more than the greatest value", 2, []api.Constraint{relate(0, atLeast, -1, most, required), relate(1, atLeast, 0, 0, strong), relate(1, atLeast, 0, 1, weak)}, []int{most, most}, []int{2}},
		{"a sum at the limit", 2, []api.Constraint{relate(0, equal, -1, 1, required), relate(1, equal, 0, most-1, strong)}, []int{1, most}, nil},
		{"a sum beyond the limit", 2, []api.Constraint{relate(0, equal, -1, 2, required), relate(1, equal, 0, most-1, strong)}, []int{2, 0}, []int{1}},
		{"a sum far beyond the limit", 3, []api.Constraint{relate(1, atLeast, 0, most, strong), relate(0, atLeast, -1, most, weak), relate(2, atLeast, 1, most, weak)}, []int{0, most, 0}, []int{1, 2}},
		{"back from the limit", 3, []api.Constraint{relate(0, atLeast, -1, most, strong), relate(1, equal, 0, -most, strong), relate(2, atMost, 1, -most, strong), relate(1, atMost, 2, -most, weak)}, []int{most, 0, most}, []int{2}},
		{"at most the limits", 2, []api.Constraint{relate(0, atMost, -1, most, required), relate(0, atMost, 1, most, required), relate(0, atLeast, 1, -most, required), relate(1, atMost, -1, -most, weak)}, []int{0, 0}, []int{3}},
		{"a value that its limit raises", 2, []api.Constraint{relate(0, equal, -1, most, required), relate(0, atMost, 1, 3, required)}, []int{most, most - 3}, nil},
	})
}

// chain returns a system in which the variable 0 is limited by end and each other one is 1 more than the one before it.
func chain(vars int, end api.Constraint) []api.Constraint {
	var l []api.Constraint
	for i := 1; i < vars; i++ {
		l = append(l, relate(i, atLeast, i-1, 1, medium))
	}
	return append(l, end)
}

// TestLongChains passes a value on through all variables, in the order of the list and against it.
func TestLongChains(t *testing.T) {
	for vars := 2; vars <= api.MaxVars; vars++ {
		first := relate(0, atLeast, -1, 5, weak)
		values, low := make([]int, vars), make([]int, vars)
		for i := range vars {
			values[i], low[i] = 5+i, i
		}
		l := chain(vars, first)
		backwards := slices.Clone(l)
		slices.Reverse(backwards[:vars-1])
		// The same constraints, each with the variable that is raised on the other side.
		turned := slices.Clone(backwards)
		for i, c := range turned[:vars-1] {
			turned[i] = relate(c.B, atMost, c.A, -c.C, c.Strength)
		}
		last := len(l)
		testSolve(t, []solveCase{
			{"forwards", vars, l, values, nil},
			{"backwards", vars, backwards, values, nil},
			{"turned", vars, turned, values, nil},
			{"a cycle without a sum", vars, append(slices.Clone(backwards), relate(0, atLeast, vars-1, 1-vars, weak)), values, nil},
			{"a cycle with a sum", vars, append(slices.Clone(backwards), relate(0, atLeast, vars-1, 2-vars, weak)), values, []int{last}},
			{"no room at the end", vars, append(chain(vars, relate(0, atLeast, -1, most-vars+2, weak)), relate(0, atLeast, -1, most-vars, weak)), sums(low, most-vars), []int{last - 1}},
			{"room at the end", vars, chain(vars, relate(0, atLeast, -1, most-vars+1, weak)), sums(low, most-vars+1), nil},
		})
	}
}

// sums returns the numbers, each increased by n.
func sums(numbers []int, n int) []int {
	l := slices.Clone(numbers)
	for i := range l {
		l[i] += n
	}
	return l
}

// TestMost solves as many constraints between as many variables as there can be.
func TestMost(t *testing.T) {
	var l []api.Constraint
	for i := range api.MaxConstraints {
		l = append(l, relate((i*7+1)%api.MaxVars, atLeast, i*7%api.MaxVars, i%3-1, 3-i%4))
	}
	testReading(t, newClosure(api.MaxVars), l)
	for _, c := range []api.Constraint{relate(-1, equal, -1, 0, required), relate(api.MaxVars-1, equal, -1, most, required)} {
		got, e := Solve(api.MaxVars, slices.Repeat([]api.Constraint{c}, api.MaxConstraints))
		if e != api.OK || len(got.L) != api.MaxConstraints || slices.Contains(got.Held, false) || got.Values[api.MaxVars-1] != max(c.C, 0) {
			t.Errorf("P20.2: Solve of MaxConstraints times %v = %v, %d", c, got, e)
		}
	}
}

// outside returns numbers that are not from low to high.
func outside(low, high int) []int {
	return []int{low - 1, low - 2, high + 1, high + 2, -1 << 32, 1 << 32, math.MinInt, math.MinInt + 1, math.MaxInt, math.MaxInt - 1}
}

// refused contains all constraints with one number that a system with so many variables must not have.
func refused(vars int) []api.Constraint {
	var l []api.Constraint
	for _, n := range outside(-1, vars-1) {
		l = append(l, relate(n, atLeast, -1, 0, weak), relate(-1, atMost, n, 0, weak))
	}
	for _, n := range outside(0, 2) {
		l = append(l, relate(-1, n, -1, 0, weak))
	}
	for _, n := range outside(-most, most) {
		l = append(l, relate(-1, atLeast, -1, n, weak))
	}
	for _, n := range outside(0, 3) {
		l = append(l, relate(-1, equal, -1, 0, n))
	}
	return l
}

// testError checks that e is want, with a result that is zero.
func testError(t *testing.T, what string, got api.System, e, want api.Errno) {
	t.Helper()
	if e != want || !same(got, api.System{}) {
		t.Errorf("P20.2, R4: %s = %v, %d, want the error %d", what, got, e, want)
	}
}

func TestErrors(t *testing.T) {
	ok := relate(-1, equal, -1, 0, weak)
	conflict := relate(-1, equal, -1, 1, required)
	many := slices.Repeat([]api.Constraint{ok}, api.MaxConstraints+1)
	bad := relate(-1, 7, -1, 0, weak)
	for _, vars := range outside(0, api.MaxVars) {
		for _, l := range [][]api.Constraint{nil, {ok}, {bad}, {conflict}, many} {
			got, e := Solve(vars, l)
			testError(t, "Solve with a wrong number of variables", got, e, api.ErrRange)
		}
		got, e := New(vars)
		testError(t, "New", got, e, api.ErrRange)
	}
	for _, c := range []api.Constraint{ok, bad, conflict} {
		for _, n := range []int{api.MaxConstraints + 1, api.MaxConstraints + 2, 1 << 16} {
			got, e := Solve(3, slices.Repeat([]api.Constraint{c}, n))
			testError(t, "Solve with too many constraints", got, e, api.ErrTooLong)
		}
	}
	for _, vars := range []int{0, 1, 2, 3, api.MaxVars} {
		for _, c := range refused(vars) {
			for _, l := range [][]api.Constraint{{c}, {c, ok}, {ok, c}, {ok, c, ok}, {conflict, c}, {c, conflict}, slices.Concat(many[:api.MaxConstraints-1], []api.Constraint{c})} {
				got, e := Solve(vars, l)
				testError(t, "Solve with a wrong constraint", got, e, api.ErrRange)
			}
		}
	}
}

func TestConflicts(t *testing.T) {
	for _, l := range [][]api.Constraint{
		{relate(-1, atLeast, -1, 1, required)},
		{relate(-1, atMost, -1, -1, required)},
		{relate(-1, equal, -1, 1, required)},
		{relate(-1, equal, -1, -1, required)},
		{relate(0, atLeast, 0, 1, required)},
		{relate(0, atMost, -1, -1, required)},
		{relate(-1, atLeast, 0, most, required)},
		{relate(0, equal, -1, 4, required), relate(0, equal, -1, 5, required)},
		{relate(0, equal, -1, 5, required), relate(0, equal, -1, 4, required)},
		{relate(0, equal, -1, 5, weak), relate(0, equal, -1, 5, required), relate(1, atMost, -1, 0, required), relate(0, atLeast, -1, 6, required)},
		{relate(0, atLeast, -1, 1, required), relate(1, atLeast, 0, most, required)},
		{relate(0, atLeast, 1, 1, required), relate(1, atLeast, 0, 0, required)},
		{relate(0, atMost, 1, 0, required), relate(1, atMost, 2, 0, required), relate(2, atMost, 0, -1, required)},
	} {
		// Weaker constraints beside them do not change anything, wherever they stand.
		other := relate(2, equal, -1, 3, strong)
		for _, all := range [][]api.Constraint{l, append(slices.Clone(l), other), append([]api.Constraint{other}, l...)} {
			got, e := Solve(3, all)
			testError(t, "Solve with a conflict", got, e, api.ErrConflict)
		}
		// With another strength the last one is rejected.
		l[len(l)-1].Strength = strong
		got, e := Solve(3, l)
		if e != api.OK || len(got.Held) != len(l) || got.Held[len(l)-1] {
			t.Errorf("P20.2: Solve(3, %v) = %v, %d, want the last one rejected", l, got, e)
		}
	}
}
