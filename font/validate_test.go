package font

import (
	"math"
	"slices"
	"testing"

	"widgetry/api"
)

// changed returns the sample font after a change.
func changed(change func(*api.Font)) api.Font {
	f := sample()
	change(&f)
	return f
}

func expect(t *testing.T, f api.Font, want api.Errno) {
	t.Helper()
	if got := Validate(f); got != want {
		t.Errorf("P7.1: Validate(%v) = %d, want %d", f, got, want)
	}
}

func TestValid(t *testing.T) {
	for _, f := range []api.Font{
		sample(), plain(1000, 800, 200, 0, 500), plain(16, 1, 0, 0, 0), plain(16, 0, 1, 0, 0), plain(4096, 4096, 4096, 4096, 4096),
		{Units: 16, Ascent: 1, Advances: []api.Advance{}, Kerns: []api.Kern{}, Ligatures: []api.Ligature{}},
	} {
		expect(t, f, api.OK)
	}
}

// A limit says from where to where a number of the font may be, and sets it.
type limit struct {
	name      string
	low, high int
	set       func(f *api.Font, x int)
}

// limits returns one for each number that is no rune; those of lists for the last and for the first element.
func limits() []limit {
	return []limit{
		{"Units", 16, 4096, func(f *api.Font, x int) { f.Units = x }},
		{"Ascent", 0, 4096, func(f *api.Font, x int) { f.Ascent = x }},
		{"Descent", 0, 4096, func(f *api.Font, x int) { f.Descent = x }},
		{"Gap", 0, 4096, func(f *api.Font, x int) { f.Gap = x }},
		{"Default", 0, 4096, func(f *api.Font, x int) { f.Default = x }},
		{"Width of an Advance", 0, 4096, func(f *api.Font, x int) { f.Advances[len(f.Advances)-1].Width = x }},
		{"Width of the first Advance", 0, 4096, func(f *api.Font, x int) { f.Advances[0].Width = x }},
		{"D of a Kern", -1000, 1000, func(f *api.Font, x int) { f.Kerns[len(f.Kerns)-1].D = x }},
		{"D of the first Kern", -1000, 1000, func(f *api.Font, x int) { f.Kerns[0].D = x }},
		{"Glyph of a Ligature", 0x110000, 0x1FFFFF, func(f *api.Font, x int) { f.Ligatures[len(f.Ligatures)-1].Glyph = x }},
		{"Glyph of the first Ligature", 0x110000, 0x1FFFFF, func(f *api.Font, x int) { f.Ligatures[0].Glyph = x }},
		{"Width of a Ligature", 0, 4096, func(f *api.Font, x int) { f.Ligatures[len(f.Ligatures)-1].Width = x }},
		{"Width of the first Ligature", 0, 4096, func(f *api.Font, x int) { f.Ligatures[0].Width = x }},
	}
}

func TestNumbers(t *testing.T) {
	for _, l := range limits() {
		for _, x := range []int{math.MinInt, l.low - 1, l.low, l.low + 1, l.high - 1, l.high, l.high + 1, math.MaxInt} {
			want := api.OK
			if x < l.low || x > l.high {
				want = api.ErrRange
			}
			if got := Validate(changed(func(f *api.Font) { l.set(f, x) })); got != want {
				t.Errorf("P7.1: Validate with the %s %d = %d, want %d", l.name, x, got, want)
			}
		}
	}
	expect(t, plain(1000, 0, 0, 100, 500), api.ErrRange)
	// The sum of these overflows to 1.
	expect(t, plain(1000, math.MinInt, math.MinInt+1, 0, 0), api.ErrRange)
	expect(t, plain(1000, -1, 2, 0, 0), api.ErrRange)
	expect(t, plain(1000, 2, -1, 0, 0), api.ErrRange)
}

func TestRunesInRange(t *testing.T) {
	for _, r := range []rune{math.MinInt32, -1, 0x110000, math.MaxInt32} {
		expect(t, changed(func(f *api.Font) { f.Advances[0].From = r }), api.ErrRange)
		expect(t, changed(func(f *api.Font) { f.Advances[len(f.Advances)-1].To = r }), api.ErrRange)
		expect(t, changed(func(f *api.Font) { f.Kerns[0].A = r }), api.ErrRange)
		expect(t, changed(func(f *api.Font) { f.Kerns[len(f.Kerns)-1].A = r }), api.ErrRange)
		expect(t, changed(func(f *api.Font) { f.Kerns[0].B = r }), api.ErrRange)
		expect(t, changed(func(f *api.Font) { f.Kerns[len(f.Kerns)-1].B = r }), api.ErrRange)
	}
	expect(t, changed(func(f *api.Font) { f.Advances[0].From, f.Kerns[0].A, f.Kerns[0].B = 0, 0, 0 }), api.OK)
	expect(t, changed(func(f *api.Font) { f.Kerns[4].A, f.Kerns[4].B = 0x10FFFF, 0x10FFFF }), api.OK)
	expect(t, changed(func(f *api.Font) { f.Advances = []api.Advance{{From: 0, To: 0x10FFFF, Width: 1}} }), api.OK)
	expect(t, changed(func(f *api.Font) { f.Advances = []api.Advance{{From: 0xD800, To: 0xDFFF, Width: 1}} }), api.OK)
}

// TestLigatureRunes: P7.1 limits the runes of Advances and Kerns only.
func TestLigatureRunes(t *testing.T) {
	f := sample()
	f.Ligatures = []api.Ligature{{A: -1, B: math.MaxInt32, Glyph: 0x110000}, {A: 0x110000, B: -1, Glyph: 0x110001}}
	expect(t, f, api.OK)
}

func TestAdvanceOrder(t *testing.T) {
	tests := []struct {
		l    []api.Advance
		want api.Errno
	}{
		{[]api.Advance{{From: 5, To: 5}}, api.OK},
		{[]api.Advance{{From: 0, To: 0}}, api.OK},
		{[]api.Advance{{From: 6, To: 5}}, api.ErrOrder},
		{[]api.Advance{{From: 1, To: 0}}, api.ErrOrder},
		{[]api.Advance{{From: 1, To: 4}, {From: 5, To: 9}}, api.OK},
		{[]api.Advance{{From: 1, To: 4}, {From: 4, To: 9}}, api.ErrOrder},
		{[]api.Advance{{From: 1, To: 4}, {From: 2, To: 3}}, api.ErrOrder},
		{[]api.Advance{{From: 1, To: 4}, {From: 1, To: 4}}, api.ErrOrder},
		{[]api.Advance{{From: 5, To: 9}, {From: 1, To: 4}}, api.ErrOrder},
		{[]api.Advance{{From: 1, To: 1}, {From: 3, To: 2}}, api.ErrOrder},
		{[]api.Advance{{From: 3, To: 1}, {From: 2, To: 2}}, api.ErrOrder},
		{[]api.Advance{{From: 1, To: 1}, {From: 2, To: 2}, {From: 3, To: 3}, {From: 3, To: 4}}, api.ErrOrder},
	}
	for _, x := range tests {
		expect(t, changed(func(f *api.Font) { f.Advances = x.l }), x.want)
	}
}

// TestPairOrder tests Kerns and Ligatures, which have the same order.
func TestPairOrder(t *testing.T) {
	tests := []struct {
		pairs [][2]rune
		want  api.Errno
	}{
		{[][2]rune{{9, 1}}, api.OK},
		{[][2]rune{{1, 1}, {1, 2}, {2, 1}, {2, 2}}, api.OK},
		{[][2]rune{{1, 9}, {2, 0}}, api.OK},
		{[][2]rune{{1, 1}, {1, 1}}, api.ErrOrder},
		{[][2]rune{{1, 2}, {1, 1}}, api.ErrOrder},
		{[][2]rune{{2, 1}, {1, 2}}, api.ErrOrder},
		{[][2]rune{{2, 2}, {1, 2}}, api.ErrOrder},
		{[][2]rune{{2, 2}, {1, 1}}, api.ErrOrder},
		{[][2]rune{{1, 1}, {1, 2}, {2, 1}, {1, 3}}, api.ErrOrder},
		{[][2]rune{{3, 1}, {1, 2}, {2, 1}, {2, 3}}, api.ErrOrder},
	}
	for _, x := range tests {
		kerns, ligatures := []api.Kern{}, []api.Ligature{}
		for _, p := range x.pairs {
			kerns = append(kerns, api.Kern{A: p[0], B: p[1]})
			ligatures = append(ligatures, api.Ligature{A: p[0], B: p[1], Glyph: 0x110000})
		}
		expect(t, changed(func(f *api.Font) { f.Kerns = kerns }), x.want)
		expect(t, changed(func(f *api.Font) { f.Ligatures = ligatures }), x.want)
	}
}

// full returns a valid font with n elements in each list.
func full(n int) api.Font {
	f := plain(1000, 800, 200, 0, 500)
	for i := range rune(n) {
		f.Advances = append(f.Advances, api.Advance{From: 2 * i, To: 2*i + 1, Width: 1})
		f.Kerns = append(f.Kerns, api.Kern{A: i / 10, B: i, D: 1})
		f.Ligatures = append(f.Ligatures, api.Ligature{A: i / 10, B: i, Glyph: 0x110000})
	}
	return f
}

func TestLengths(t *testing.T) {
	expect(t, full(100), api.OK)
	expect(t, full(101), api.ErrTooLong)
	more := full(101)
	for _, change := range []func(*api.Font){
		func(f *api.Font) { f.Advances = more.Advances },
		func(f *api.Font) { f.Kerns = more.Kerns },
		func(f *api.Font) { f.Ligatures = more.Ligatures },
	} {
		expect(t, changed(change), api.ErrTooLong)
		// The other errors come after this one.
		for _, l := range limits() {
			f := changed(change)
			l.set(&f, l.high+1)
			expect(t, f, api.ErrTooLong)
		}
		f := changed(change)
		slices.Reverse(f.Advances)
		slices.Reverse(f.Kerns)
		slices.Reverse(f.Ligatures)
		expect(t, f, api.ErrTooLong)
	}
}

// TestErrorOrder: a number that is out of range anywhere comes before a list in the wrong order, also an earlier list.
func TestErrorOrder(t *testing.T) {
	for _, l := range limits() {
		for _, mix := range []func(*api.Font){
			func(f *api.Font) { slices.Reverse(f.Advances) },
			func(f *api.Font) { f.Advances[0].From, f.Advances[0].To = 2, 1 },
			func(f *api.Font) { slices.Reverse(f.Kerns) },
			func(f *api.Font) { slices.Reverse(f.Ligatures) },
		} {
			expect(t, changed(mix), api.ErrOrder)
			expect(t, changed(func(f *api.Font) { mix(f); l.set(f, l.low-1) }), api.ErrRange)
			expect(t, changed(func(f *api.Font) { mix(f); l.set(f, l.high+1) }), api.ErrRange)
		}
	}
}
