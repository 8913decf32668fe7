package constraint

import (
	"math/rand"
	"slices"
	"testing"

	"widgetry/api"
)

// space decides whether constraints have a solution, in a way of its own.
type space interface {
	vars() int
	// narrow takes away the solutions that do not satisfy c, or returns false if none would be left.
	narrow(c api.Constraint) bool
	// least returns the least value that each variable has in any solution.
	least() []int
}

// satisfied reports whether the values satisfy c, in the words of P20.1.
func satisfied(c api.Constraint, values []int) bool {
	a, b := 0, 0
	if c.A >= 0 {
		a = values[c.A]
	}
	if c.B >= 0 {
		b = values[c.B]
	}
	switch c.Relation {
	case api.RelationAtLeast:
		return a >= b+c.C
	case api.RelationAtMost:
		return a <= b+c.C
	}
	return a == b+c.C
}

// enumeration is a list of solutions. It contains only values near 0 and MaxLength, which is enough for constraints whose numbers C are near 0, MaxLength or -MaxLength: if they have a solution, each value of the least one is 0 or a sum of such numbers, of no more than there are variables.
type enumeration struct {
	n   int
	all [][]int
}

// newEnumeration contains all values that are at most by off from 0 or MaxLength.
func newEnumeration(vars, off int) *enumeration {
	x := &enumeration{n: vars, all: [][]int{nil}}
	for range vars {
		var longer [][]int
		for _, values := range x.all {
			for d := 0; d <= off; d++ {
				longer = append(longer, append(slices.Clone(values), d), append(slices.Clone(values), most-d))
			}
		}
		x.all = longer
	}
	return x
}

func (x *enumeration) vars() int { return x.n }

func (x *enumeration) narrow(c api.Constraint) bool {
	var left [][]int
	for _, values := range x.all {
		if satisfied(c, values) {
			left = append(left, values)
		}
	}
	if len(left) == 0 {
		return false
	}
	x.all = left
	return true
}

func (x *enumeration) least() []int {
	l := slices.Clone(x.all[0])
	for _, values := range x.all {
		l = lesser(l, values)
	}
	return l
}

// lesser returns the smaller one of the two values for each variable.
func lesser(x, y []int) []int {
	l := slices.Clone(x)
	for i := range l {
		l[i] = min(l[i], y[i])
	}
	return l
}

// closure contains for each two variables by how much the first one is at least greater than the second one, if all constraints are taken together. The variable -1 has the index 0. Constraints have a solution unless a variable had to be greater than itself.
type closure struct {
	above [][]int
}

func newClosure(vars int) *closure {
	x := &closure{}
	for i := range vars + 1 {
		x.above = append(x.above, make([]int, vars+1))
		for j := 1; j <= vars; j++ {
			if i != j {
				x.above[i][j] = -most
			}
		}
	}
	return x
}

func (x *closure) vars() int { return len(x.above) - 1 }

func (x *closure) narrow(c api.Constraint) bool {
	before := make([][]int, len(x.above))
	for i, row := range x.above {
		before[i] = slices.Clone(row)
	}
	ok := true
	if c.Relation != api.RelationAtMost {
		ok = x.demand(c.A+1, c.B+1, c.C)
	}
	if ok && c.Relation != api.RelationAtLeast {
		ok = x.demand(c.B+1, c.A+1, -c.C)
	}
	if !ok {
		x.above = before
	}
	return ok
}

// demand makes the variable a at least by n greater than b.
func (x *closure) demand(a, b, n int) bool {
	if n+x.above[b][a] > 0 {
		return false
	}
	for i := range x.above {
		for j := range x.above {
			x.above[i][j] = max(x.above[i][j], x.above[i][a]+n+x.above[b][j])
		}
	}
	return true
}

func (x *closure) least() []int {
	var l []int
	for _, row := range x.above[1:] {
		l = append(l, row[0])
	}
	return l
}

// read returns the system in the words of P20.2, for valid constraints.
func read(x space, l []api.Constraint) (api.System, api.Errno) {
	s := api.System{Vars: x.vars(), L: l, Held: make([]bool, len(l))}
	for _, strength := range []int{api.StrengthRequired, api.StrengthStrong, api.StrengthMedium, api.StrengthWeak} {
		for i, c := range l {
			if c.Strength == strength {
				s.Held[i] = x.narrow(c)
			}
		}
	}
	for i, c := range l {
		if c.Strength == api.StrengthRequired && !s.Held[i] {
			return api.System{}, api.ErrConflict
		}
	}
	s.Values = x.least()
	return s, api.OK
}

// testReading compares Solve with the reading, and checks what P20.3 says of Values.
func testReading(t *testing.T, x space, l []api.Constraint) {
	t.Helper()
	vars := x.vars()
	before := slices.Clone(l)
	got, e := Solve(vars, l)
	want, wantErr := read(x, l)
	if e != wantErr || !same(got, want) {
		t.Fatalf("P20.2: Solve(%d, %v) = %v, %d, want %v, %d", vars, l, got, e, want, wantErr)
	}
	if !slices.Equal(l, before) {
		t.Fatalf("R2: Solve(%d, %v) has changed its argument to %v", vars, before, l)
	}
	for i, held := range got.Held {
		if satisfied(l[i], got.Values) != held {
			t.Fatalf("P20.3: Solve(%d, %v) = %v: the constraint %d", vars, l, got, i)
		}
	}
	for _, v := range got.Values {
		if v < 0 || v > most {
			t.Fatalf("P20.1: Solve(%d, %v) = %v", vars, l, got)
		}
	}
}

// TestSolveSmall tries all lists of two constraints between two variables.
func TestSolveSmall(t *testing.T) {
	var all []api.Constraint
	for a := -1; a < 2; a++ {
		for b := -1; b < 2; b++ {
			for _, c := range []int{0, 1, -2, most, 1 - most} {
				for relation := range 3 {
					all = append(all, relate(a, relation, b, c, weak))
				}
			}
		}
	}
	whole := newEnumeration(2, 4)
	strengths := [][2]int{{required, required}, {weak, strong}, {medium, medium}, {strong, required}, {required, weak}}
	for _, c := range all {
		for _, d := range all {
			for _, s := range strengths {
				c.Strength, d.Strength = s[0], s[1]
				x := *whole
				testReading(t, &x, []api.Constraint{c, d})
			}
		}
	}
}

// chanceConstraint returns a constraint between so many variables. Its number is mostly small.
func chanceConstraint(r *rand.Rand, vars int) api.Constraint {
	c := r.Intn(5) - 2
	switch r.Intn(8) {
	case 0:
		c = []int{most, -most, most - 1, 1 - most, most - 2, 2 - most}[r.Intn(6)]
	case 1, 2:
		c = -1
	}
	strength := []int{required, strong, medium, medium, weak, weak, weak, weak}[r.Intn(8)]
	return relate(r.Intn(vars+1)-1, r.Intn(3), r.Intn(vars+1)-1, c, strength)
}

// TestSolveChance compares lists made by chance with all solutions that they have.
func TestSolveChance(t *testing.T) {
	r := rand.New(rand.NewSource(20))
	wholes := []*enumeration{newEnumeration(0, 0), newEnumeration(1, 2), newEnumeration(2, 4), newEnumeration(3, 6)}
	for round := range 30000 {
		x := *wholes[round%len(wholes)]
		l := make([]api.Constraint, r.Intn(9))
		for i := range l {
			l[i] = chanceConstraint(r, x.n)
		}
		testReading(t, &x, l)
		testSolutions(t, r, &x, l)
	}
}

// testSolutions checks what P20.3 says of the solutions that x is narrowed to, those of the accepted constraints.
func testSolutions(t *testing.T, r *rand.Rand, x *enumeration, l []api.Constraint) {
	t.Helper()
	s, e := Solve(x.n, l)
	if e != api.OK {
		return
	}
	for i, c := range l {
		for _, values := range x.all {
			if satisfied(c, values) != s.Held[i] {
				t.Fatalf("P20.3: Solve(%d, %v) = %v: the solution %v and the constraint %d", x.n, l, s, values, i)
			}
		}
	}
	a, b := x.all[r.Intn(len(x.all))], x.all[r.Intn(len(x.all))]
	for i, c := range l {
		if s.Held[i] && !satisfied(c, lesser(a, b)) {
			t.Fatalf("P20.3: Solve(%d, %v) = %v: the lesser values of %v and %v are no solution", x.n, l, s, a, b)
		}
	}
}

// TestSolveLarge compares larger lists made by chance, with numbers of all sizes.
func TestSolveLarge(t *testing.T) {
	r := rand.New(rand.NewSource(2020))
	for round := range 1500 {
		vars := 1 + r.Intn(api.MaxVars)
		n := []int{1, 3, 20, 1000, most / 20, most}[round%6]
		l := make([]api.Constraint, r.Intn(api.MaxConstraints+1))
		// With too many required constraints nearly all lists would have a conflict.
		strengths := []int{strong, medium, weak}
		if round%2 == 0 {
			strengths = append(strengths, required)
			l = l[:len(l)/4]
		}
		for i := range l {
			c := r.Intn(n + 1)
			if r.Intn(2) == 0 {
				c = -c
			}
			l[i] = relate(r.Intn(vars+1)-1, r.Intn(3), r.Intn(vars+1)-1, c, strengths[r.Intn(len(strengths))])
		}
		testReading(t, newClosure(vars), l)
	}
}

// TestSolveRows compares lists of a kind that has long ways from one variable to another: most variables follow another one, in an order made by chance.
func TestSolveRows(t *testing.T) {
	r := rand.New(rand.NewSource(202))
	for round := range 600 {
		vars := 2 + r.Intn(api.MaxVars-1)
		order := r.Perm(vars)
		var l []api.Constraint
		for i := 1; i < vars; i++ {
			a, b, c, strength := order[i], order[i-1], r.Intn(9), r.Intn(4)
			if r.Intn(2) == 0 {
				l = append(l, relate(a, []int{atLeast, equal}[r.Intn(2)], b, c, strength))
			} else {
				l = append(l, relate(b, []int{atMost, equal}[r.Intn(2)], a, -c, strength))
			}
		}
		r.Shuffle(len(l), func(i, j int) { l[i], l[j] = l[j], l[i] })
		for range r.Intn(20) {
			l = append(l, relate(r.Intn(vars+1)-1, r.Intn(3), r.Intn(vars+1)-1, r.Intn(8*vars)-4*vars, 1+r.Intn(3)))
		}
		if round%2 == 0 {
			l = append(l, relate(order[0], atLeast, -1, r.Intn(most), weak))
		}
		testReading(t, newClosure(vars), l)
	}
}
