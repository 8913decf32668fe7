package fixed

import (
	"math"
	"math/big"
	"slices"
	"testing"

	"widgetry/api"
)

// operands are the numbers that Floor and Round are tested with: small ones, the limits, and what lies beyond them.
func operands() []int {
	l := []int{math.MinInt, math.MinInt + 1, -1<<61 - 1, -1<<60 - 1, -1 << 60, -1<<60 + 1, -1 << 59, 1 << 59, 1<<60 - 1, 1 << 60, 1<<60 + 1, 1 << 61, math.MaxInt}
	for x := -40; x <= 40; x++ {
		l = append(l, x)
	}
	return l
}

// outside reports whether Floor and Round must return 0 for a and b.
func outside(a, b int) bool {
	return b == 0 || a < -1<<60 || a > 1<<60 || b < -1<<60 || b > 1<<60
}

// floorOf rounds a rational number down: big's Div is Euclidean, and denominators are positive.
func floorOf(r *big.Rat) int {
	return int(new(big.Int).Div(r.Num(), r.Denom()).Int64())
}

func TestFloor(t *testing.T) {
	for _, a := range operands() {
		for _, b := range operands() {
			want := 0
			if !outside(a, b) {
				want = floorOf(new(big.Rat).SetFrac(big.NewInt(int64(a)), big.NewInt(int64(b))))
			}
			if got := Floor(a, b); got != want {
				t.Errorf("P1.1: Floor(%d, %d) = %d, want %d", a, b, got, want)
			}
		}
	}
}

func TestRound(t *testing.T) {
	half := big.NewRat(1, 2)
	for _, a := range operands() {
		for _, b := range operands() {
			want := 0
			if !outside(a, b) {
				exact := new(big.Rat).SetFrac(big.NewInt(int64(a)), big.NewInt(int64(b)))
				want = floorOf(exact.Add(exact, half))
			}
			if got := Round(a, b); got != want {
				t.Errorf("P1.1: Round(%d, %d) = %d, want %d", a, b, got, want)
			}
		}
	}
}

// TestQuotients contains the examples of the chapter and values that were computed by hand.
func TestQuotients(t *testing.T) {
	tests := []struct{ a, b, floor, round int }{
		{-7, 2, -4, -3}, {7, 2, 3, 4}, {7, -2, -4, -3}, {-7, -2, 3, 4}, {1, 3, 0, 0}, {2, 3, 0, 1}, {-1, 3, -1, 0}, {-2, 3, -1, -1},
		{1, 2, 0, 1}, {-1, 2, -1, 0}, {6, 3, 2, 2}, {-6, 3, -2, -2}, {0, -9, 0, 0}, {9, 0, 0, 0}, {-9, 0, 0, 0}, {0, 0, 0, 0},
		{1 << 60, -1, -1 << 60, -1 << 60}, {1 << 60, 1 << 60, 1, 1}, {1<<60 - 1, 1 << 60, 0, 1}, {1 - 1<<60, 1 << 60, -1, -1},
		{1 << 59, 1 << 60, 0, 1}, {-1 << 59, 1 << 60, -1, 0}, {1<<60 + 1, 1<<60 + 1, 0, 0}, {-1<<60 - 1, 1, 0, 0}, {5, 1<<60 + 1, 0, 0}, {-5, 1<<60 + 1, 0, 0},
		{math.MinInt, -1, 0, 0}, {math.MinInt, math.MinInt, 0, 0}, {math.MaxInt, math.MaxInt, 0, 0},
	}
	for _, x := range tests {
		if got := Floor(x.a, x.b); got != x.floor {
			t.Errorf("P1.1: Floor(%d, %d) = %d, want %d", x.a, x.b, got, x.floor)
		}
		if got := Round(x.a, x.b); got != x.round {
			t.Errorf("P1.1: Round(%d, %d) = %d, want %d", x.a, x.b, got, x.round)
		}
	}
}

func TestScale(t *testing.T) {
	const most = 1 << 16
	tests := []struct {
		x, num, den, want int
		err               api.Errno
	}{
		{10, 3, 4, 8, api.OK}, {-10, 3, 4, -7, api.OK}, {9, 3, 4, 7, api.OK}, {-9, 3, 4, -7, api.OK}, {1, 1, 3, 0, api.OK}, {0, most, most, 0, api.OK},
		{7, 0, 1, 0, api.OK}, {7, 1, most, 0, api.OK}, {most / 2, 1, most, 1, api.OK}, {-most / 2, 1, most, 0, api.OK},
		{api.MaxNumber, most, 1, 1 << 56, api.OK}, {-api.MaxNumber, most, 1, -1 << 56, api.OK}, {api.MaxNumber, most, most, api.MaxNumber, api.OK}, {api.MaxNumber, most, 3, 24019198012642645, api.OK},
		{api.MaxNumber + 1, 1, 1, 0, api.ErrRange}, {-api.MaxNumber - 1, 1, 1, 0, api.ErrRange}, {math.MinInt, 1, 1, 0, api.ErrRange}, {math.MaxInt, 1, 1, 0, api.ErrRange},
		{1, -1, 1, 0, api.ErrRange}, {1, most + 1, 1, 0, api.ErrRange}, {1, math.MinInt, 1, 0, api.ErrRange},
		{1, 1, 0, 0, api.ErrRange}, {1, 1, -1, 0, api.ErrRange}, {1, 1, most + 1, 0, api.ErrRange}, {math.MaxInt, math.MaxInt, math.MaxInt, 0, api.ErrRange},
	}
	for _, x := range tests {
		if got, e := Scale(x.x, x.num, x.den); got != x.want || e != x.err {
			t.Errorf("P1.2: Scale(%d, %d, %d) = %d, %d, want %d, %d", x.x, x.num, x.den, got, e, x.want, x.err)
		}
	}
}

func TestScaleIsRound(t *testing.T) {
	for x := -30; x <= 30; x++ {
		for num := 0; num <= 9; num++ {
			for den := 1; den <= 9; den++ {
				if got, e := Scale(x, num, den); got != Round(x*num, den) || e != api.OK {
					t.Errorf("P1.2: Scale(%d, %d, %d) = %d, %d", x, num, den, got, e)
				}
			}
		}
	}
}

func TestClamp(t *testing.T) {
	tests := []struct{ x, low, high, want int }{
		{5, 1, 9, 5}, {1, 1, 9, 1}, {9, 1, 9, 9}, {0, 1, 9, 1}, {10, 1, 9, 9}, {-5, -9, -1, -5}, {3, 3, 3, 3}, {4, 3, 3, 3}, {2, 3, 3, 3},
		{0, 9, 1, 9}, {5, 9, 1, 9}, {20, 9, 1, 9}, {9, 9, 8, 9},
		{math.MinInt, 0, math.MaxInt, 0}, {math.MaxInt, math.MinInt, 0, 0}, {0, math.MaxInt, math.MinInt, math.MaxInt}, {math.MaxInt, math.MinInt, math.MaxInt, math.MaxInt},
	}
	for _, x := range tests {
		if got := Clamp(x.x, x.low, x.high); got != x.want {
			t.Errorf("P1.3: Clamp(%d, %d, %d) = %d, want %d", x.x, x.low, x.high, got, x.want)
		}
	}
}

func TestShare(t *testing.T) {
	tests := []struct {
		total         int
		weights, want []int
	}{
		{10, []int{1, 1, 1}, []int{4, 3, 3}},
		{11, []int{1, 1, 1}, []int{4, 4, 3}},
		{10, []int{1, 2}, []int{3, 7}},
		{10, []int{2, 1}, []int{7, 3}},
		{5, []int{1, 6, 1, 6, 1}, []int{1, 2, 0, 2, 0}},
		{1, []int{0, 3, 0, 4, 4}, []int{0, 0, 0, 1, 0}},
		{2, []int{0, 5, 5, 5, 0}, []int{0, 1, 1, 0, 0}},
		{0, []int{3, 0, 1}, []int{0, 0, 0}},
		{9, []int{0, 0, 0}, []int{0, 0, 0}},
		{9, []int{7}, []int{9}},
		{9, []int{}, []int{}},
		{9, nil, []int{}},
	}
	for _, x := range tests {
		if got, e := Share(x.total, x.weights); !slices.Equal(got, x.want) || e != api.OK {
			t.Errorf("P1.4: Share(%d, %v) = %v, %d, want %v", x.total, x.weights, got, e, x.want)
		}
	}
}

// TestShareGreatest uses products that are greater than any operand of Floor.
func TestShareGreatest(t *testing.T) {
	const total, weight = 1 << 30, 1 << 31
	weights := slices.Repeat([]int{weight}, api.MaxKids)
	want := slices.Repeat([]int{total / api.MaxKids}, api.MaxKids)
	for i := range total % api.MaxKids {
		want[i]++
	}
	if got, e := Share(total, weights); !slices.Equal(got, want) || e != api.OK {
		t.Errorf("P1.4: Share of the greatest arguments = %v, %d, want %v", got, e, want)
	}
	if got, e := Share(total, []int{weight, weight - 1, 1}); !slices.Equal(got, []int{1 << 29, 1 << 29, 0}) || e != api.OK {
		t.Errorf("P1.4: Share(%d, {%d, %d, 1}) = %v, %d", total, weight, weight-1, got, e)
	}
}

func TestShareErrors(t *testing.T) {
	long := make([]int, api.MaxKids+1)
	wrong := slices.Repeat([]int{-1}, api.MaxKids+1)
	tests := []struct {
		total   int
		weights []int
		want    api.Errno
	}{
		{1, long, api.ErrTooLong}, {-1, long, api.ErrTooLong}, {1<<30 + 1, wrong, api.ErrTooLong}, {1, wrong, api.ErrTooLong},
		{-1, []int{1}, api.ErrRange}, {-1, nil, api.ErrRange}, {1<<30 + 1, []int{1}, api.ErrRange}, {math.MinInt, []int{0}, api.ErrRange}, {math.MaxInt, []int{0}, api.ErrRange},
		{1, []int{-1}, api.ErrRange}, {1, []int{1, 2, -1}, api.ErrRange}, {0, []int{0, 1<<31 + 1}, api.ErrRange}, {1, []int{math.MinInt, math.MaxInt}, api.ErrRange},
	}
	for _, x := range tests {
		if got, e := Share(x.total, x.weights); len(got) != 0 || e != x.want {
			t.Errorf("P1.4: Share(%d, %d weights) = %v, %d, want error %d", x.total, len(x.weights), got, e, x.want)
		}
	}
	if got, e := Share(1, make([]int, api.MaxKids)); len(got) != api.MaxKids || e != api.OK {
		t.Errorf("P1.4: Share of MaxKids weights = %v, %d", got, e)
	}
}

// lists returns all lists of up to four weights from 0 to 4, and some with great weights.
func lists() [][]int {
	all := [][]int{{}}
	for at := 0; len(all[at]) < 4; at++ {
		for w := range 5 {
			all = append(all, append(slices.Clone(all[at]), w))
		}
	}
	return append(all, []int{1 << 31, 1 << 31, 1, 0}, []int{1<<31 - 1, 0, 7, 1 << 30}, slices.Repeat([]int{3, 0, 1 << 31, 5}, 25))
}

func TestShareProportions(t *testing.T) {
	for _, weights := range lists() {
		for _, total := range []int{0, 1, 2, 3, 7, 10, 11, 97, 1<<30 - 1, 1 << 30} {
			checkProportions(t, total, weights)
		}
	}
}

func checkProportions(t *testing.T, total int, weights []int) {
	t.Helper()
	before := slices.Clone(weights)
	parts, e := Share(total, weights)
	if e != api.OK || len(parts) != len(weights) {
		t.Fatalf("P1.4: Share(%d, %v) = %v, %d", total, weights, parts, e)
	}
	if !slices.Equal(before, weights) {
		t.Errorf("R2: Share(%d, %v) changed its argument to %v", total, before, weights)
	}
	all, sum := 0, 0
	for i, w := range weights {
		all += w
		sum += parts[i]
	}
	if all == 0 && sum != 0 || all != 0 && sum != total {
		t.Errorf("P1.5: the sum of Share(%d, %v) is %d", total, weights, sum)
	}
	for i, w := range weights {
		if w == 0 && parts[i] != 0 {
			t.Errorf("P1.5: Share(%d, %v) gives %d to weight 0", total, weights, parts[i])
		}
		// |part - total*w/all| < 1, multiplied by the sum of the weights.
		if distance := parts[i]*all - total*w; all != 0 && (distance <= -all || distance >= all) {
			t.Errorf("P1.5: Share(%d, %v): part %d is %d", total, weights, i, parts[i])
		}
	}
}
