package box

import (
	"math"
	"slices"
	"testing"

	"widgetry/api"
)

const most = api.MaxLength

func flex(basis, least, greatest, grow, shrink int) api.Flex {
	return api.Flex{Basis: basis, Min: least, Max: greatest, Grow: grow, Shrink: shrink}
}

// growing is an element without limits.
func growing(basis, grow int) api.Flex { return flex(basis, 0, most, grow, 0) }

// shrinking is an element without limits.
func shrinking(basis, shrink int) api.Flex { return flex(basis, 0, most, 0, shrink) }

type resolveCase struct {
	available, gap int
	l              []api.Flex
	want           []int
}

func testResolve(t *testing.T, tests []resolveCase) {
	t.Helper()
	for _, x := range tests {
		if got, e := Resolve(x.available, x.gap, x.l); !slices.Equal(got, x.want) || e != api.OK {
			t.Errorf("P18.1: Resolve(%d, %d, %v) = %v, %d, want %v", x.available, x.gap, x.l, got, e, x.want)
		}
	}
}

// TestResolveGrowing contains sizes that were computed by hand.
func TestResolveGrowing(t *testing.T) {
	testResolve(t, []resolveCase{
		// The example of DOC.md.
		{100, 10, []api.Flex{flex(20, 0, 1000, 1, 0), flex(10, 0, 1000, 2, 0)}, []int{40, 50}},
		{0, 0, nil, nil},
		{0, most, []api.Flex{}, nil},
		{7, most, []api.Flex{growing(0, 1)}, []int{7}},
		{10, 0, []api.Flex{growing(0, 1), growing(0, 1), growing(0, 1)}, []int{4, 3, 3}},
		{10, 1, []api.Flex{growing(0, 3), growing(0, 3), growing(0, 3)}, []int{3, 3, 2}},
		{10, 0, []api.Flex{growing(0, 1), growing(0, 2)}, []int{3, 7}},
		{10, 0, []api.Flex{growing(4, 1), growing(1, 1000)}, []int{4, 6}},
		// An element with the weight 0 keeps its natural size.
		{20, 0, []api.Flex{growing(4, 0), growing(1, 1)}, []int{4, 16}},
		{20, 0, []api.Flex{growing(4, 0), growing(1, 0)}, []int{4, 1}},
		{20, 0, []api.Flex{flex(4, 6, 9, 0, 5), growing(1, 2)}, []int{6, 14}},
		{20, 0, []api.Flex{flex(4, 0, 3, 0, 5), growing(1, 2)}, []int{3, 17}},
		// Shrink means nothing where the elements grow, also if the natural sizes fill the space.
		{20, 0, []api.Flex{flex(4, 0, most, 1, 1000), flex(6, 0, most, 1, 0)}, []int{9, 11}},
		{20, 0, []api.Flex{flex(14, 0, most, 1, 1), flex(6, 0, most, 1, 1)}, []int{14, 6}},
		{20, 0, []api.Flex{flex(14, 0, 6, 1, 0), flex(6, 6, most, 1, 0)}, []int{6, 14}},
		{20, 2, []api.Flex{growing(5, 1), growing(5, 1), growing(5, 1)}, []int{6, 5, 5}},
	})
}

// TestResolveGrowingLimits contains elements that cannot have their parts.
func TestResolveGrowingLimits(t *testing.T) {
	testResolve(t, []resolveCase{
		{9, 0, []api.Flex{flex(0, 0, 4, 1, 0)}, []int{4}},
		{9, 0, []api.Flex{flex(0, 0, 9, 1, 0)}, []int{9}},
		{9, 0, []api.Flex{flex(0, 9, 9, 1, 0)}, []int{9}},
		{12, 0, []api.Flex{flex(0, 10, most, 1, 0), growing(0, 1)}, []int{10, 2}},
		{10, 0, []api.Flex{flex(0, 0, 3, 1, 0), growing(0, 1)}, []int{3, 7}},
		{10, 0, []api.Flex{flex(0, 0, 3, 1, 0), flex(0, 0, 4, 1, 0)}, []int{3, 4}},
		// The minimum adds 5 and the maximum takes 2: first the one with the minimum is frozen.
		{15, 0, []api.Flex{flex(0, 10, most, 1, 0), flex(0, 0, 3, 1, 0), growing(0, 1)}, []int{10, 3, 2}},
		// The minimum adds 1 and the maximum takes 4: first the one with the maximum is frozen.
		{15, 0, []api.Flex{flex(0, 6, most, 1, 0), flex(0, 0, 1, 1, 0), growing(0, 1)}, []int{7, 1, 7}},
		// Both change the sum by 2: all are frozen.
		{15, 0, []api.Flex{flex(0, 7, most, 1, 0), flex(0, 0, 3, 1, 0), growing(0, 1)}, []int{7, 3, 5}},
		{15, 0, []api.Flex{growing(0, 1), flex(0, 0, 3, 1, 0), flex(0, 7, most, 1, 0)}, []int{5, 3, 7}},
		// Two that exceed their maximum are frozen together, and two that fall short of their minimum.
		{40, 0, []api.Flex{flex(0, 0, 3, 1, 0), flex(0, 0, 5, 1, 0), growing(0, 1), growing(0, 1)}, []int{3, 5, 16, 16}},
		{40, 0, []api.Flex{flex(0, 13, most, 1, 0), growing(0, 1), flex(0, 11, most, 1, 0), growing(0, 1)}, []int{13, 8, 11, 8}},
		// The second one exceeds its maximum only after the first one has been frozen.
		{30, 0, []api.Flex{flex(0, 0, 2, 1, 0), flex(0, 0, 12, 1, 0), growing(0, 1)}, []int{2, 12, 16}},
		{30, 0, []api.Flex{flex(0, 18, most, 1, 0), flex(0, 7, most, 1, 0), growing(0, 1)}, []int{18, 7, 5}},
		// The size of an element that is not frozen is its basis, not its natural size.
		{10, 0, []api.Flex{flex(0, 4, most, 1, 0), growing(0, 1)}, []int{5, 5}},
		{10, 0, []api.Flex{flex(2, 4, most, 1, 0), growing(0, 1)}, []int{6, 4}},
		// The maximum is less than the basis.
		{20, 0, []api.Flex{flex(10, 0, 4, 5, 0), growing(0, 1)}, []int{4, 16}},
		{5, 0, []api.Flex{flex(10, 0, 4, 1, 0)}, []int{4}},
		// The maximum is less than the minimum.
		{20, 0, []api.Flex{flex(3, 6, 2, 1, 0), growing(0, 1)}, []int{6, 14}},
		{20, 0, []api.Flex{flex(9, 6, 2, 1, 0), growing(0, 1)}, []int{6, 14}},
		{20, 0, []api.Flex{flex(3, 6, 2, 0, 0), growing(0, 0)}, []int{6, 0}},
	})
}

// TestResolveShrinking contains sizes that were computed by hand.
func TestResolveShrinking(t *testing.T) {
	testResolve(t, []resolveCase{
		{10, 0, []api.Flex{shrinking(10, 1), shrinking(10, 1)}, []int{5, 5}},
		{20, 0, []api.Flex{shrinking(10, 1), shrinking(10, 1), shrinking(10, 1)}, []int{6, 7, 7}},
		{20, 0, []api.Flex{shrinking(30, 1), shrinking(10, 1)}, []int{15, 5}},
		{20, 0, []api.Flex{shrinking(30, 1), shrinking(10, 3)}, []int{20, 0}},
		{9, 0, []api.Flex{shrinking(6, 1), shrinking(4, 1)}, []int{5, 4}},
		// One more than fits is enough to shrink, and Grow means nothing then.
		{19, 0, []api.Flex{flex(14, 0, most, 9, 0), flex(6, 0, most, 9, 1)}, []int{14, 5}},
		{20, 1, []api.Flex{shrinking(14, 0), shrinking(6, 1)}, []int{14, 5}},
		// An element with the weight 0 keeps its natural size.
		{10, 0, []api.Flex{shrinking(10, 0), shrinking(10, 0)}, []int{10, 10}},
		{10, 0, []api.Flex{shrinking(8, 0), shrinking(10, 1)}, []int{8, 2}},
		{10, 0, []api.Flex{flex(0, 4, most, 0, 1), shrinking(10, 1)}, []int{4, 6}},
		{10, 0, []api.Flex{flex(9, 0, 4, 0, 0), shrinking(10, 1)}, []int{4, 6}},
		// More than there is has to be taken away.
		{50, 0, []api.Flex{shrinking(1, 1), shrinking(100, 0)}, []int{0, 100}},
		{0, 0, []api.Flex{shrinking(5, 1), shrinking(7, 2)}, []int{0, 0}},
		// The gaps alone are wider than the space.
		{10, 6, []api.Flex{shrinking(5, 1), shrinking(7, 2), flex(9, 2, most, 0, 1)}, []int{0, 0, 2}},
		{10, 6, []api.Flex{shrinking(0, 1), shrinking(0, 1), growing(0, 5)}, []int{0, 0, 0}},
		{0, most, []api.Flex{growing(0, 5), growing(3, 1)}, []int{0, 3}},
	})
}

// TestResolveShrinkingLimits contains elements that cannot give their parts.
func TestResolveShrinkingLimits(t *testing.T) {
	testResolve(t, []resolveCase{
		{10, 0, []api.Flex{flex(10, 8, most, 0, 1), shrinking(10, 1)}, []int{8, 2}},
		{10, 0, []api.Flex{flex(10, 8, most, 0, 1), flex(10, 9, most, 0, 1)}, []int{8, 9}},
		{16, 0, []api.Flex{flex(10, 0, 6, 0, 1), shrinking(13, 1)}, []int{6, 10}},
		// The maximum takes 2 and the minimum adds 5: first the one with the minimum is frozen.
		{30, 0, []api.Flex{flex(20, 15, most, 0, 1), flex(20, 0, 8, 0, 1), shrinking(20, 1)}, []int{15, 7, 8}},
		// The maximum takes 4 and the minimum adds 1: first the one with the maximum is frozen.
		{30, 0, []api.Flex{flex(20, 11, most, 0, 1), flex(20, 0, 6, 0, 1), shrinking(20, 1)}, []int{12, 6, 12}},
		// Both change the sum by 2: all are frozen.
		{30, 0, []api.Flex{flex(20, 12, most, 0, 1), flex(20, 0, 8, 0, 1), shrinking(20, 1)}, []int{12, 8, 10}},
		// The second one falls short of its minimum only after the first one has been frozen.
		{30, 0, []api.Flex{flex(20, 16, most, 0, 1), flex(20, 8, most, 0, 1), shrinking(20, 1)}, []int{16, 8, 6}},
		// The minimum is greater than the basis.
		{20, 0, []api.Flex{flex(3, 5, most, 0, 1), shrinking(30, 1)}, []int{5, 15}},
		// The maximum is less than the minimum.
		{20, 0, []api.Flex{flex(9, 5, 2, 0, 1), shrinking(30, 1)}, []int{5, 15}},
		{20, 0, []api.Flex{flex(3, 5, 2, 0, 1), shrinking(30, 1)}, []int{5, 15}},
		{0, 0, []api.Flex{flex(9, 5, 2, 0, 1), flex(9, 5, 0, 0, 1)}, []int{5, 5}},
	})
}

// TestResolveGreatest uses the greatest numbers that are allowed.
func TestResolveGreatest(t *testing.T) {
	repeated := func(f api.Flex, n int) []api.Flex { return slices.Repeat([]api.Flex{f}, n) }
	ofTwo := func(first, n, second int) []int {
		return append(slices.Repeat([]int{first}, n), slices.Repeat([]int{second}, api.MaxKids-n)...)
	}
	testResolve(t, []resolveCase{
		{most, 0, repeated(growing(0, 1000), api.MaxKids), ofTwo(10486, 76, 10485)},
		{most, 0, repeated(shrinking(most, 1000), api.MaxKids), ofTwo(10485, 24, 10486)},
		{0, most, repeated(shrinking(most, 1000), api.MaxKids), make([]int, api.MaxKids)},
		{0, most, repeated(flex(most, most, most, 1000, 1000), api.MaxKids), slices.Repeat([]int{most}, api.MaxKids)},
		{0, most, repeated(flex(most, most, 0, 1000, 1000), api.MaxKids), slices.Repeat([]int{most}, api.MaxKids)},
		{most, most, repeated(growing(0, 1000), 2), []int{0, 0}},
		{most, 0, []api.Flex{growing(0, 1000)}, []int{most}},
		{most, 0, []api.Flex{growing(most, 1000)}, []int{most}},
		{0, 0, []api.Flex{shrinking(most, 1)}, []int{0}},
	})
}

func TestResolveErrors(t *testing.T) {
	good := growing(1, 1)
	for _, n := range []int{math.MinInt, math.MinInt + 1, -most, -1, most + 1, 1 << 30, math.MaxInt - 1, math.MaxInt} {
		for _, l := range [][]api.Flex{nil, {good}, {good, good}} {
			if got, e := Resolve(n, 0, l); len(got) > 0 || e != api.ErrRange {
				t.Errorf("P18.1: Resolve of the available space %d: %v, %d", n, got, e)
			}
			if got, e := Resolve(0, n, l); len(got) > 0 || e != api.ErrRange {
				t.Errorf("P18.1: Resolve with the gap %d: %v, %d", n, got, e)
			}
			if got, e := Resolve(n, n, append(l, flex(n, n, n, n, n))); len(got) > 0 || e != api.ErrRange {
				t.Errorf("P18.1: Resolve of the available space and the gap %d: %v, %d", n, got, e)
			}
		}
		for _, bad := range []api.Flex{flex(n, 0, 9, 1, 1), flex(1, n, 9, 1, 1), flex(1, 0, n, 1, 1), flex(n, n, n, 1, 1), flex(n, 0, 9, -1, 1), flex(1, n, 9, 1, 1001), flex(n, n, n, n, n)} {
			testFlexError(t, bad)
		}
	}
	for _, n := range []int{math.MinInt, -1000, -1, 1001, most, 1 << 31, math.MaxInt} {
		for _, bad := range []api.Flex{flex(1, 0, 9, n, 1), flex(1, 0, 9, 1, n), flex(0, 0, 0, n, 0), flex(0, 0, 0, 0, n), flex(1, 0, 9, n, n), flex(1, 0, 9, -1, n), flex(1, 0, 9, n, 1001)} {
			testFlexError(t, bad)
		}
	}
}

// testFlexError passes an element that is not valid, at each place among others.
func testFlexError(t *testing.T, bad api.Flex) {
	t.Helper()
	for i := range 3 {
		l := slices.Insert(slices.Repeat([]api.Flex{growing(1, 1)}, 2), i, bad)
		for _, available := range []int{0, 1, most} {
			if got, e := Resolve(available, 1, l); len(got) > 0 || e != api.ErrRange {
				t.Errorf("P18.1: Resolve(%d, 1, %v) = %v, %d", available, l, got, e)
			}
		}
	}
	l := append(slices.Repeat([]api.Flex{growing(1, 1)}, api.MaxKids-1), bad)
	if got, e := Resolve(most, 0, l); len(got) > 0 || e != api.ErrRange {
		t.Errorf("P18.1: Resolve of MaxKids elements, the last one %v: %v, %d", bad, got, e)
	}
}

// TestResolveLimits passes numbers that are just within their ranges.
func TestResolveLimits(t *testing.T) {
	for _, f := range []api.Flex{flex(most, 0, most, 0, 0), flex(0, most, 0, 0, 0), flex(0, 0, most, 1000, 1000), flex(0, 0, 0, 0, 0), flex(most, most, most, 1000, 1000)} {
		for _, available := range []int{0, most} {
			for _, gap := range []int{0, most} {
				if got, e := Resolve(available, gap, []api.Flex{f}); len(got) != 1 || e != api.OK {
					t.Errorf("P18.1: Resolve(%d, %d, {%v}) = %v, %d", available, gap, f, got, e)
				}
			}
		}
	}
}

func TestResolveTooLong(t *testing.T) {
	for _, n := range []int{api.MaxKids + 1, api.MaxKids + 2, 1 << 16} {
		for _, f := range []api.Flex{growing(1, 1), {}, flex(-1, -1, -1, -1, -1)} {
			for _, available := range []int{-1, 0, most, most + 1} {
				if got, e := Resolve(available, 0, slices.Repeat([]api.Flex{f}, n)); len(got) > 0 || e != api.ErrTooLong {
					t.Errorf("P18.1: Resolve(%d, 0, %d elements) = %v, %d", available, n, got, e)
				}
				if got, e := Resolve(0, available, slices.Repeat([]api.Flex{f}, n)); len(got) > 0 || e != api.ErrTooLong {
					t.Errorf("P18.1: Resolve(0, %d, %d elements) = %v, %d", available, n, got, e)
				}
			}
		}
	}
	if got, e := Resolve(0, 0, make([]api.Flex, api.MaxKids)); len(got) != api.MaxKids || e != api.OK {
		t.Errorf("P18.1: Resolve of MaxKids elements: %v, %d", got, e)
	}
}
