package box

import (
	"math/rand"
	"slices"
	"testing"

	"widgetry/api"
	"widgetry/fixed"
)

// reading is P18.1 sentence by sentence, for valid arguments.
type reading struct {
	l       []api.Flex
	space   int
	grow    bool
	frozen  map[int]bool
	sizes   []int
	targets map[int]int
}

func (r *reading) clamp(i, x int) int { return fixed.Clamp(x, r.l[i].Min, r.l[i].Max) }

func (r *reading) weight(i int) int {
	if r.grow {
		return r.l[i].Grow
	}
	return r.l[i].Shrink * r.l[i].Basis
}

// others returns the elements that are not frozen.
func (r *reading) others() []int {
	var l []int
	for i := range r.l {
		if !r.frozen[i] {
			l = append(l, i)
		}
	}
	return l
}

func (r *reading) freeze(i, size int) {
	r.frozen[i], r.sizes[i] = true, size
}

// resolveRead returns the sizes of the elements in the words of P18.1.
func resolveRead(available, gap int, l []api.Flex) []int {
	r := &reading{l: l, space: available, frozen: map[int]bool{}, sizes: make([]int, len(l)), targets: map[int]int{}}
	sum := 0
	for i, f := range l {
		if i > 0 {
			r.space -= gap
		}
		sum += r.clamp(i, f.Basis)
	}
	r.grow = sum <= r.space
	for i, f := range l {
		natural := r.clamp(i, f.Basis)
		if r.weight(i) == 0 || r.grow && f.Basis > natural || !r.grow && f.Basis < natural {
			r.freeze(i, natural)
		}
	}
	for len(r.others()) > 0 {
		r.aim()
		r.settle()
	}
	return r.sizes
}

// aim determines the targets of the elements that are not frozen.
func (r *reading) aim() {
	free := r.space
	var weights []int
	for i, f := range r.l {
		if r.frozen[i] {
			free -= r.sizes[i]
		} else {
			free -= f.Basis
			weights = append(weights, r.weight(i))
		}
	}
	parts := make([]int, len(weights))
	if r.grow && free >= 0 {
		parts, _ = fixed.Share(free, weights)
	} else if !r.grow && free <= 0 {
		parts, _ = fixed.Share(-free, weights)
	}
	for k, i := range r.others() {
		if r.grow {
			r.targets[i] = r.l[i].Basis + parts[k]
		} else {
			r.targets[i] = r.l[i].Basis - parts[k]
		}
	}
}

// settle freezes the elements that are treated first.
func (r *reading) settle() {
	v := 0
	for _, i := range r.others() {
		v += r.clamp(i, r.targets[i]) - r.targets[i]
	}
	for _, i := range r.others() {
		size := r.clamp(i, r.targets[i])
		switch {
		case v == 0, v > 0 && size > r.targets[i], v < 0 && size < r.targets[i]:
			r.freeze(i, size)
		}
	}
}

// testSizes compares Resolve with the reading, and checks P18.5.
func testSizes(t *testing.T, available, gap int, l []api.Flex) {
	t.Helper()
	before := slices.Clone(l)
	got, e := Resolve(available, gap, l)
	if want := resolveRead(available, gap, l); !slices.Equal(got, want) || e != api.OK {
		t.Fatalf("P18.1: Resolve(%d, %d, %v) = %v, %d, want %v", available, gap, l, got, e, want)
	}
	if !slices.Equal(before, l) {
		t.Fatalf("R2: Resolve(%d, %d, %v) changed its argument to %v", available, gap, before, l)
	}
	natural, filled, unlimited := 0, 0, false
	for i, f := range l {
		if got[i] < f.Min || got[i] > max(f.Min, f.Max) {
			t.Fatalf("P18.5: Resolve(%d, %d, %v) = %v: the element %d exceeds its limits", available, gap, l, got, i)
		}
		if i > 0 {
			natural, filled = natural+gap, filled+gap
		}
		natural, filled = natural+max(f.Min, min(f.Basis, f.Max)), filled+got[i]
		unlimited = unlimited || f.Grow > 0 && f.Max == api.MaxLength
	}
	if unlimited && natural <= available && filled != available {
		t.Fatalf("P18.5: Resolve(%d, %d, %v) = %v fills %d", available, gap, l, got, filled)
	}
}

// smallElements returns all elements over a few numbers.
func smallElements() []api.Flex {
	var l []api.Flex
	for _, basis := range []int{0, 1, 3} {
		for _, least := range []int{0, 2} {
			for _, greatest := range []int{0, 1, 3, most} {
				for grow := range 3 {
					for shrink := range 3 {
						l = append(l, flex(basis, least, greatest, grow, shrink))
					}
				}
			}
		}
	}
	return l
}

// TestResolvePairs divides small spaces among all pairs of small elements.
func TestResolvePairs(t *testing.T) {
	for _, a := range smallElements() {
		for available := range 9 {
			testSizes(t, available, 3, []api.Flex{a})
		}
		for _, b := range smallElements() {
			for available := range 9 {
				testSizes(t, available, available%2, []api.Flex{a, b})
			}
		}
	}
}

// chance returns elements whose numbers are at most n, apart from some that are the greatest.
func chance(r *rand.Rand, count, n int) []api.Flex {
	number := func(limit int) int {
		switch r.Intn(8) {
		case 0:
			return 0
		case 1:
			return limit
		}
		return r.Intn(min(n, limit) + 1)
	}
	l := make([]api.Flex, count)
	for i := range l {
		l[i] = flex(number(n), number(n), number(most), number(1000), number(1000))
		switch r.Intn(4) {
		case 0:
			l[i].Min = 0
		case 1:
			l[i].Max = most
		}
	}
	return l
}

// TestResolveChance divides spaces of all kinds among lists of all lengths.
func TestResolveChance(t *testing.T) {
	r := rand.New(rand.NewSource(18))
	for round := range 60000 {
		n := []int{3, 9, 100, 5000, most}[round%5]
		count := r.Intn(7)
		if round%50 == 0 {
			count = r.Intn(api.MaxKids + 1)
		}
		l := chance(r, count, n)
		gap := []int{0, r.Intn(3), r.Intn(n + 1)}[r.Intn(3)]
		for _, available := range []int{r.Intn(n + 1), min(most, r.Intn(n*(count+1)+1)), min(most, n*count)} {
			testSizes(t, available, gap, l)
		}
	}
}

// offsetsRead returns the positions of elements in the words of P18.2, for valid arguments.
func offsetsRead(available, gap, justify int, sizes []int, right bool) []int {
	free := available
	for i, s := range sizes {
		free -= s
		if i > 0 {
			free -= gap
		}
	}
	at := 0
	var parts []int
	switch justify {
	case api.AlignEnd:
		at = free
	case api.AlignCenter:
		at = fixed.Floor(free, 2)
	case api.JustifyBetween:
		if free > 0 && len(sizes) >= 2 {
			parts, _ = fixed.Share(free, slices.Repeat([]int{1}, len(sizes)-1))
		}
	}
	var l []int
	for i, s := range sizes {
		if i > 0 {
			at += sizes[i-1] + gap
		}
		if i > 0 && len(parts) > 0 {
			at += parts[i-1]
		}
		if right {
			l = append(l, available-s-at)
		} else {
			l = append(l, at)
		}
	}
	return l
}

// TestOffsetsChance compares Offsets with the reading.
func TestOffsetsChance(t *testing.T) {
	r := rand.New(rand.NewSource(2))
	for round := range 60000 {
		n := []int{1, 3, 9, 1000, most}[round%5]
		sizes := make([]int, r.Intn(8))
		if round%50 == 0 {
			sizes = make([]int, r.Intn(api.MaxKids+1))
		}
		for i := range sizes {
			sizes[i] = r.Intn(n + 1)
		}
		before := slices.Clone(sizes)
		available, gap := min(most, r.Intn(n*6+1)), r.Intn(n+1)/(1+r.Intn(4))
		for justify := range 4 {
			for _, right := range []bool{false, true} {
				got, want := Offsets(available, gap, justify, sizes, right), offsetsRead(available, gap, justify, sizes, right)
				if !slices.Equal(got, want) || !slices.Equal(before, sizes) {
					t.Fatalf("P18.2: Offsets(%d, %d, %d, %v, %v) = %v, want %v", available, gap, justify, before, right, got, want)
				}
			}
		}
	}
}

// TestAlignAll compares Align with P18.3 for all small numbers.
func TestAlignAll(t *testing.T) {
	for available := range 30 {
		for size := range 30 {
			left := map[int]int{api.AlignStart: 0, api.AlignEnd: available - size, api.AlignCenter: fixed.Floor(available-size, 2), api.AlignStretch: 0, api.AlignBaseline: 0}
			for align, at := range left {
				extent := size
				if align == api.AlignStretch {
					extent = available
				}
				if p, n := Align(align, available, size, false); p != at || n != extent {
					t.Errorf("P18.3: Align(%d, %d, %d, false) = %d, %d, want %d, %d", align, available, size, p, n, at, extent)
				}
				if p, n := Align(align, available, size, true); p != available-extent-at || n != extent {
					t.Errorf("P18.3: Align(%d, %d, %d, true) = %d, %d, want %d, %d", align, available, size, p, n, available-extent-at, extent)
				}
			}
		}
	}
}

// TestBaselineChance checks what P18.4 says of the offsets and the height.
func TestBaselineChance(t *testing.T) {
	r := rand.New(rand.NewSource(4))
	for round := range 20000 {
		n := []int{2, 9, 1000, most}[round%4]
		heights, baselines := make([]int, 1+r.Intn(6)), []int{}
		for i := range heights {
			heights[i] = r.Intn(n + 1)
			baselines = append(baselines, r.Intn(n+1))
		}
		oldHeights, oldBaselines := slices.Clone(heights), slices.Clone(baselines)
		offsets, height := Baseline(heights, baselines)
		if !slices.Equal(oldHeights, heights) || !slices.Equal(oldBaselines, baselines) {
			t.Fatalf("R2: Baseline(%v, %v) changed its arguments", oldHeights, oldBaselines)
		}
		bottoms := make([]int, len(heights))
		for i, h := range heights {
			if i >= len(offsets) || offsets[i]+baselines[i] != slices.Max(baselines) {
				t.Fatalf("P18.4: Baseline(%v, %v) = %v", heights, baselines, offsets)
			}
			bottoms[i] = offsets[i] + h
		}
		if len(offsets) != len(heights) || height != slices.Max(bottoms) {
			t.Fatalf("P18.4: Baseline(%v, %v) = %v, %d", heights, baselines, offsets, height)
		}
	}
}

// TestSharedMemory changes results, which must not change arguments or later results (R2).
func TestSharedMemory(t *testing.T) {
	l := []api.Flex{growing(1, 1), growing(2, 0), shrinking(3, 1)}
	for _, available := range []int{2, 6, 20} {
		first, _ := Resolve(available, 0, l)
		want := slices.Clone(first)
		clear(first)
		if again, _ := Resolve(available, 0, l); !slices.Equal(again, want) {
			t.Errorf("R2: Resolve(%d, 0, %v) = %v after %v", available, l, again, want)
		}
	}
	for _, sizes := range [][]int{{0, 0}, {1, 2, 3}} {
		for justify := range 4 {
			kept := slices.Clone(sizes)
			for _, right := range []bool{false, true} {
				if got := Offsets(9, 0, justify, sizes, right); len(got) == len(sizes) {
					got[0], got[1] = -7, -7
				}
			}
			if !slices.Equal(kept, sizes) {
				t.Errorf("R2: a result of Offsets shares memory with the sizes %v", kept)
			}
		}
		kept, other := slices.Clone(sizes), slices.Clone(sizes)
		if got, _ := Baseline(sizes, other); len(got) == len(sizes) {
			got[0], got[1] = -7, -7
		}
		if !slices.Equal(kept, sizes) || !slices.Equal(kept, other) {
			t.Errorf("R2: a result of Baseline shares memory with %v", kept)
		}
	}
}
