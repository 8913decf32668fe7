package constraint

import (
	"math"
	"math/rand"
	"slices"
	"testing"

	"widgetry/api"
)

func TestNew(t *testing.T) {
	for vars := range api.MaxVars + 1 {
		want := api.System{Vars: vars, Values: make([]int, vars)}
		if got, e := New(vars); e != api.OK || !same(got, want) {
			t.Errorf("P20.4: New(%d) = %v, %d, want %v", vars, got, e, want)
		}
	}
}

// built returns the system to which the constraints have been added one after the other.
func built(t *testing.T, vars int, l []api.Constraint) api.System {
	t.Helper()
	s, e := New(vars)
	for _, c := range l {
		if e == api.OK {
			s, e = Add(s, c)
		}
	}
	if e != api.OK {
		t.Fatalf("P20.4: New(%d) and Add of %v have the error %d", vars, l, e)
	}
	return s
}

// TestSteps changes a system step by step, with values that were found by hand.
func TestSteps(t *testing.T) {
	s := built(t, 2, nil)
	steps := []struct {
		add    api.Constraint
		remove int // the index to remove instead, unless it is negative
		values []int
		held   []bool
	}{
		{relate(1, equal, 0, 10, weak), -1, []int{0, 10}, []bool{true}},
		{relate(0, atLeast, -1, 5, strong), -1, []int{5, 15}, []bool{true, true}},
		// A stronger constraint takes the place of weaker ones.
		{relate(1, atMost, -1, 12, required), -1, []int{5, 0}, []bool{false, true, true}},
		{relate(0, equal, -1, 2, required), -1, []int{2, 12}, []bool{true, false, true, true}},
		// A weaker one, or a later one of the same strength, does not.
		{relate(1, equal, 0, 11, weak), -1, []int{2, 12}, []bool{true, false, true, true, false}},
		// When a constraint is removed, those that it excluded are accepted again.
		{api.Constraint{}, 3, []int{5, 0}, []bool{false, true, true, false}},
		{api.Constraint{}, 2, []int{5, 15}, []bool{true, true, false}},
		{api.Constraint{}, 0, []int{5, 16}, []bool{true, true}},
		{api.Constraint{}, 1, []int{5, 0}, []bool{true}},
		{api.Constraint{}, 0, []int{0, 0}, nil},
	}
	var l []api.Constraint
	for i, x := range steps {
		var got api.System
		var e api.Errno
		if x.remove < 0 {
			l = append(l, x.add)
			got, e = Add(s, x.add)
		} else {
			l = slices.Delete(slices.Clone(l), x.remove, x.remove+1)
			got, e = Remove(s, x.remove)
		}
		if want := (api.System{Vars: 2, L: l, Held: x.held, Values: x.values}); e != api.OK || !same(got, want) {
			t.Fatalf("P20.4: step %d = %v, %d, want %v", i, got, e, want)
		}
		s = got
	}
}

// TestAddErrors checks that Add has the errors of Solve, and that the system can be used afterwards.
func TestAddErrors(t *testing.T) {
	for _, vars := range []int{0, 1, 3, api.MaxVars} {
		s := built(t, vars, []api.Constraint{relate(-1, equal, -1, 0, required)})
		before := deep(s)
		for _, c := range refused(vars) {
			got, e := Add(s, c)
			testError(t, "Add of a wrong constraint", got, e, api.ErrRange)
		}
		for _, c := range []api.Constraint{relate(-1, atLeast, -1, 1, required), relate(-1, equal, -1, -1, required)} {
			got, e := Add(s, c)
			testError(t, "Add of a conflict", got, e, api.ErrConflict)
		}
		if !same(s, before) {
			t.Errorf("R2: Add has changed %v to %v", before, s)
		}
	}
	s := built(t, 1, []api.Constraint{relate(0, equal, -1, 4, required)})
	got, e := Add(s, relate(0, atLeast, -1, 5, required))
	testError(t, "Add of a second required constraint", got, e, api.ErrConflict)

	full := built(t, 2, slices.Repeat([]api.Constraint{relate(1, atLeast, 0, 1, weak)}, api.MaxConstraints))
	for _, c := range []api.Constraint{relate(0, equal, 0, 0, weak), relate(0, 9, 0, 0, weak), relate(-1, equal, -1, 1, required)} {
		got, e := Add(full, c)
		testError(t, "Add to a full system", got, e, api.ErrTooLong)
	}
	less, e := Remove(full, api.MaxConstraints-1)
	again, e2 := Add(less, relate(1, atLeast, 0, 1, weak))
	if e != api.OK || e2 != api.OK || !same(again, full) {
		t.Errorf("P20.4: Remove and Add of the last constraint have the errors %d and %d", e, e2)
	}
}

func TestRemoveErrors(t *testing.T) {
	for n := range 4 {
		s := built(t, 1, slices.Repeat([]api.Constraint{relate(0, atLeast, -1, 3, weak)}, n))
		for _, i := range outside(0, n-1) {
			got, e := Remove(s, i)
			testError(t, "Remove of a constraint that is not there", got, e, api.ErrMissing)
		}
	}
}

// TestSharedMemory changes results, which must not change anything else (R2).
func TestSharedMemory(t *testing.T) {
	l := []api.Constraint{relate(0, atLeast, -1, 1, weak), relate(1, atLeast, 0, 2, weak), relate(0, atLeast, -1, 3, weak)}
	// Behind the list there is room for one more, which does not belong to it.
	l = slices.Grow(l, 1)
	behind := &l[:4][3]
	s, _ := Solve(2, l)
	before := deep(s)
	one, _ := Add(s, relate(0, atLeast, -1, 4, weak))
	two, _ := Add(s, relate(0, atLeast, -1, 5, weak))
	if len(one.L) != 4 || len(two.L) != 4 || one.L[3].C != 4 || two.L[3].C != 5 || *behind != (api.Constraint{}) {
		t.Errorf("R2: the results of Add share memory: %v and %v", one, two)
	}
	// The same system may be passed in with another part of a longer list.
	part := api.System{Vars: 2, L: l, Held: s.Held, Values: s.Values}
	if again, e := Add(part, relate(0, atLeast, -1, 4, weak)); e != api.OK || !same(again, one) || *behind != (api.Constraint{}) {
		t.Errorf("R2: Add has changed what stands behind its argument to %v", *behind)
	}
	three, _ := Remove(s, 0)
	four, _ := Remove(s, 2)
	again, _ := Solve(2, l)
	for _, x := range []api.System{one, two, three, four, again} {
		spoil(x)
	}
	if !same(s, before) || !slices.Equal(l, before.L) {
		t.Errorf("R2: the system %v has become %v, and its list %v", before, s, l)
	}
	spoil(s)
	if !slices.Equal(l, before.L) {
		t.Errorf("R2: the result of Solve shares memory with its list, which has become %v", l)
	}
	if again, _ := Solve(2, l); !same(again, before) {
		t.Errorf("R2: Solve(2, %v) = %v, and before %v", l, again, before)
	}
}

// spoil overwrites the lists of s.
func spoil(s api.System) {
	for i := range s.L {
		s.L[i] = relate(-7, -7, -7, -7, -7)
		s.Held[i] = !s.Held[i]
	}
	for i := range s.Values {
		s.Values[i] = -7
	}
}

// TestChanges compares systems that are changed many times with systems that are solved as a whole.
func TestChanges(t *testing.T) {
	r := rand.New(rand.NewSource(20))
	for round := range 300 {
		vars := []int{0, 1, 2, 3, 5, 20, api.MaxVars}[round%7]
		s, e := New(vars)
		if e != api.OK {
			t.Fatalf("P20.4: New(%d) has the error %d", vars, e)
		}
		for range 120 {
			s = testChange(t, r, s)
		}
	}
}

// testChange adds or removes a constraint, and returns the new system, or s if there is an error.
func testChange(t *testing.T, r *rand.Rand, s api.System) api.System {
	t.Helper()
	before := deep(s)
	var l []api.Constraint
	var got, want api.System
	var e, wantErr api.Errno
	if r.Intn(3) > 0 {
		c := chanceConstraint(r, s.Vars)
		if r.Intn(30) == 0 {
			c = refused(s.Vars)[r.Intn(50)]
		}
		l = append(slices.Clone(s.L), c)
		got, e = Add(s, c)
		want, wantErr = Solve(s.Vars, l)
	} else {
		i := r.Intn(len(s.L)+2) - 1
		got, e = Remove(s, i)
		if i < 0 || i == len(s.L) {
			wantErr = api.ErrMissing
		} else {
			l = append(slices.Clone(s.L[:i]), s.L[i+1:]...)
			want, wantErr = Solve(s.Vars, l)
		}
	}
	if e != wantErr || !same(got, want) {
		t.Fatalf("P20.4: %v becomes %v, %d, want %v, %d", s, got, e, want, wantErr)
	}
	if !same(s, before) {
		t.Fatalf("R2: %v has become %v", before, s)
	}
	if e != api.OK {
		return s
	}
	return got
}

// TestForeign passes systems that are no results of this package: nothing is promised but R1.
func TestForeign(t *testing.T) {
	wide := slices.Repeat([]api.Constraint{relate(5, atLeast, 3, 1, weak), relate(-9, 77, math.MaxInt, math.MinInt, -3)}, 300)
	for _, vars := range append(outside(0, api.MaxVars), 0, 1, 3, api.MaxVars) {
		for _, n := range []int{0, 1, 2, 199, 200, 201, 600} {
			for _, k := range []int{0, 1, 3, 200, 700} {
				s := api.System{Vars: vars, L: wide[:n], Held: slices.Repeat([]bool{true}, k), Values: slices.Repeat([]int{math.MaxInt}, k)}
				Add(s, relate(0, equal, -1, 5, required))
				for _, i := range []int{math.MinInt, -1, 0, 1, n - 1, n, math.MaxInt} {
					Remove(s, i)
				}
			}
		}
	}
}
