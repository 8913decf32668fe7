package font

import (
	"math"
	"math/big"
	"slices"
	"testing"

	"widgetry/api"
)

// sample returns a font with each kind of entry: 1000 units, so that at size 1000 a pixel is a unit.
func sample() api.Font {
	return api.Font{
		Units: 1000, Ascent: 800, Descent: 200, Gap: 90, Default: 500,
		Advances: []api.Advance{
			{From: ' ', To: ' ', Width: 250}, {From: 'a', To: 'f', Width: 450}, {From: 'g', To: 'g', Width: 0}, {From: 'm', To: 'm', Width: 900},
			{From: 0x300, To: 0x30F, Width: 70}, {From: 0x627, To: 0x64A, Width: 610}, {From: 0x10FFFF, To: 0x10FFFF, Width: 4096},
		},
		Kerns: []api.Kern{
			{A: 'A', B: 'T', D: -60}, {A: 'A', B: 'V', D: -80}, {A: 'T', B: 'A', D: -61}, {A: 'T', B: 'T', D: 1000}, {A: 'V', B: 'A', D: -1000},
		},
		Ligatures: []api.Ligature{
			{A: 'f', B: 'f', Glyph: 0x110000, Width: 700}, {A: 'f', B: 'i', Glyph: 0x110001, Width: 600}, {A: 0x644, B: 0x627, Glyph: 0x1FFFFF, Width: 0},
		},
	}
}

// plain returns a font without lists.
func plain(units, ascent, descent, gap, standard int) api.Font {
	return api.Font{Units: units, Ascent: ascent, Descent: descent, Gap: gap, Default: standard}
}

// broken returns fonts that are not valid, one for each error.
func broken() []api.Font {
	long, wide, mixed := sample(), sample(), sample()
	long.Kerns = slices.Repeat(long.Kerns, 21)
	wide.Advances[0].Width = 4097
	slices.Reverse(mixed.Ligatures)
	return []api.Font{{}, long, wide, mixed}
}

// sizes are the limits of a size, and what lies beyond them.
var sizes = []int{math.MinInt, -1, 0, 1, 16, api.MaxSize, api.MaxSize + 1, math.MaxInt}

// inRange reports whether a size is from 1 to MaxSize.
func inRange(size int) bool {
	return size >= 1 && size <= 1000
}

// nearest is fixed.Round(w * size, units), computed in another way: half a unit more is rounded down, which is what Euclidean division does.
func nearest(w, size, units int) int {
	double := big.NewInt(2 * int64(w) * int64(size))
	double.Add(double, big.NewInt(int64(units)))
	return int(double.Div(double, big.NewInt(2*int64(units))).Int64())
}

func TestAdvanceRunes(t *testing.T) {
	tests := []struct {
		r    rune
		want int
	}{
		// The elements of Advances, their ends and their neighbours.
		{' ', 250}, {'!', 500}, {'`', 500}, {'a', 450}, {'c', 450}, {'f', 450}, {'g', 0}, {'h', 500}, {'l', 500}, {'m', 900}, {'n', 500},
		{0x626, 500}, {0x627, 610}, {0x640, 610}, {0x64A, 610}, {0x10FFFE, 500}, {0x10FFFF, 4096},
		// Numbers that are no runes are of the class Any.
		{-1, 500}, {math.MinInt32, 500}, {0x110000, 500}, {math.MaxInt32, 500}, {0xD800, 500},
		// Extend, also where Advances contains the rune.
		{0x2FF, 500}, {0x300, 0}, {0x30F, 0}, {0x310, 0}, {0x36F, 0}, {0x94D, 0}, {0x200C, 0}, {0xFE0F, 0}, {0x1F3FB, 0}, {0xE0100, 0},
		// ZWJ, Control, CR and LF.
		{0x200D, 0}, {0, 0}, {'\t', 0}, {'\v', 0}, {'\f', 0}, {0x7F, 0}, {0x85, 0}, {0xAD, 0}, {0x61C, 0}, {0x200B, 0}, {0x2028, 0}, {0x202E, 0}, {0x2066, 0}, {0xFEFF, 0}, {'\r', 0}, {'\n', 0},
		// The other classes: Regional, Prepend, Spacing, L, V, T, LV, LVT, Picture.
		{0x1F1E6, 500}, {0x600, 500}, {0x903, 500}, {0x1100, 500}, {0x1160, 500}, {0x11A8, 500}, {0xAC00, 500}, {0xAC01, 500}, {0x2600, 500},
		{0x3000, 500}, {0x2009, 500}, {0xA0, 500},
	}
	for _, x := range tests {
		if got := Advance(sample(), 1000, x.r); got != x.want {
			t.Errorf("P7.2: Advance of %#x = %d, want %d", x.r, got, x.want)
		}
	}
}

func TestAdvanceSizes(t *testing.T) {
	tests := []struct {
		units, width, size, want int
	}{
		{1000, 500, 16, 8}, // the example of the chapter
		{1000, 500, 1, 1}, {1000, 499, 1, 0}, {1000, 0, 1000, 0}, {1000, 531, 16, 8}, {1000, 532, 16, 9}, {1000, 31, 16, 0}, {1000, 32, 16, 1},
		{16, 4096, 1000, 256000}, {4096, 4096, 1000, 1000}, {4096, 1, 1000, 0}, {16, 1, 8, 1}, {16, 1, 7, 0},
	}
	for _, x := range tests {
		if got := Advance(plain(x.units, 1, 0, 0, x.width), x.size, 'a'); got != x.want {
			t.Errorf("P7.2: Advance of Default %d in %d units at size %d = %d, want %d", x.width, x.units, x.size, got, x.want)
		}
		f := plain(x.units, 1, 0, 0, 7)
		f.Advances = []api.Advance{{From: 'a', To: 'a', Width: x.width}}
		if got := Advance(f, x.size, 'a'); got != x.want {
			t.Errorf("P7.2: Advance of Width %d in %d units at size %d = %d, want %d", x.width, x.units, x.size, got, x.want)
		}
	}
}

func TestKern(t *testing.T) {
	tests := []struct {
		a, b rune
		size int
		want int
	}{
		{'A', 'T', 1000, -60}, {'A', 'V', 1000, -80}, {'T', 'A', 1000, -61}, {'T', 'T', 1000, 1000}, {'V', 'A', 1000, -1000},
		{'V', 'T', 1000, 0}, {'V', 'V', 1000, 0}, {'A', 'A', 1000, 0}, {'T', 'V', 1000, 0}, {-1, 'A', 1000, 0}, {'A', math.MaxInt32, 1000, 0}, {0, 0, 1000, 0},
		// Negative adjustments are rounded as by fixed.Round: of two the greater one.
		{'A', 'T', 25, -1}, {'A', 'T', 24, -1}, {'A', 'T', 9, -1}, {'A', 'T', 8, 0}, {'V', 'A', 1, -1}, {'T', 'T', 1, 1},
	}
	for _, x := range tests {
		if got := Kern(sample(), x.size, x.a, x.b); got != x.want {
			t.Errorf("P7.2: Kern of %#x and %#x at size %d = %d, want %d", x.a, x.b, x.size, got, x.want)
		}
	}
	f := plain(16, 1, 0, 0, 0)
	f.Kerns = []api.Kern{{A: 0, B: 0x10FFFF, D: -3}, {A: 0x10FFFF, B: 0, D: 3}}
	if a, b := Kern(f, 8, 0, 0x10FFFF), Kern(f, 8, 0x10FFFF, 0); a != -1 || b != 2 {
		t.Errorf("P7.2: Kerns of -1.5 and 1.5 = %d and %d, want -1 and 2", a, b)
	}
}

func TestLigature(t *testing.T) {
	f := sample()
	for _, l := range f.Ligatures {
		if got, ok := Ligature(f, l.A, l.B); got != l || !ok {
			t.Errorf("P7.2: Ligature of %#x and %#x = %v, %v, want %v", l.A, l.B, got, ok, l)
		}
	}
	for _, x := range [][2]rune{{'i', 'f'}, {'f', 'l'}, {'i', 'i'}, {0x627, 0x644}, {'f', 0x627}, {0, 0}, {-1, 'f'}, {'f', math.MaxInt32}} {
		if got, ok := Ligature(f, x[0], x[1]); got != (api.Ligature{}) || ok {
			t.Errorf("P7.2: Ligature of %#x and %#x = %v, %v", x[0], x[1], got, ok)
		}
	}
}

func TestExtents(t *testing.T) {
	tests := []struct {
		f                     api.Font
		size                  int
		ascent, descent, high int
	}{
		{sample(), 1000, 800, 200, 1090}, {sample(), 10, 8, 2, 11}, {sample(), 5, 4, 1, 5}, {sample(), 6, 5, 1, 7}, {sample(), 1, 1, 0, 1},
		// Each part is rounded, not their sum.
		{plain(100, 50, 50, 50, 0), 1, 1, 1, 3}, {plain(100, 49, 49, 49, 0), 1, 1, 0, 1}, {plain(100, 60, 49, 149, 0), 1, 1, 0, 2},
		// Only if both are 0, the ascent becomes 1.
		{plain(100, 49, 50, 0, 0), 1, 0, 1, 1}, {plain(100, 50, 49, 0, 0), 1, 1, 0, 1}, {plain(100, 0, 1, 0, 0), 49, 1, 0, 1}, {plain(100, 0, 1, 0, 0), 50, 0, 1, 1},
		{plain(100, 1, 0, 0, 0), 49, 1, 0, 1}, {plain(4096, 1, 1, 4096, 0), 1, 1, 0, 2}, {plain(4096, 0, 1, 2048, 0), 1, 1, 0, 2}, {plain(100, 0, 100, 0, 0), 12, 0, 12, 12},
		{plain(16, 4096, 4096, 4096, 4096), 1000, 256000, 256000, 768000},
	}
	for _, x := range tests {
		ascent, descent, high := Ascent(x.f, x.size), Descent(x.f, x.size), Height(x.f, x.size)
		if ascent != x.ascent || descent != x.descent || high != x.high {
			t.Errorf("P7.2: Ascent, Descent and Height of %v at size %d = %d, %d, %d, want %d, %d, %d", x.f, x.size, ascent, descent, high, x.ascent, x.descent, x.high)
		}
	}
}

// TestScaled compares all functions with the formulas of P7.2, for every size.
func TestScaled(t *testing.T) {
	for _, units := range []int{16, 17, 24, 1000, 2048, 4095, 4096} {
		for _, w := range []int{0, 1, 2, 7, 499, 500, 1000} {
			f := plain(units, w, w/2+1, w/3, w)
			f.Kerns = []api.Kern{{A: 'a', B: 'b', D: w}, {A: 'a', B: 'c', D: -w}}
			for size := 1; size <= 1000; size++ {
				checkScaled(t, f, size)
			}
		}
	}
}

func checkScaled(t *testing.T, f api.Font, size int) {
	t.Helper()
	ascent, descent := nearest(f.Ascent, size, f.Units), nearest(f.Descent, size, f.Units)
	if ascent+descent == 0 {
		ascent = 1
	}
	want := [6]int{
		nearest(f.Default, size, f.Units), nearest(f.Kerns[0].D, size, f.Units), nearest(f.Kerns[1].D, size, f.Units),
		ascent, descent, ascent + descent + nearest(f.Gap, size, f.Units),
	}
	got := [6]int{Advance(f, size, 'a'), Kern(f, size, 'a', 'b'), Kern(f, size, 'a', 'c'), Ascent(f, size), Descent(f, size), Height(f, size)}
	if got != want {
		t.Errorf("P7.2: Advance, two Kerns, Ascent, Descent and Height of %v at size %d = %v, want %v", f, size, got, want)
	}
}

func TestSizeRange(t *testing.T) {
	for _, size := range sizes {
		for name, got := range numbers(sample(), size) {
			if !inRange(size) && got != 0 {
				t.Errorf("P7.2: %s at size %d = %d, want 0", name, size, got)
			}
			if inRange(size) && got == 0 && size >= 16 {
				t.Errorf("P7.2: %s at size %d is 0", name, size)
			}
		}
	}
}

// numbers returns the results of all functions that have a size, with arguments for which none is 0 from size 16 on.
func numbers(f api.Font, size int) map[string]int {
	return map[string]int{
		"Advance": Advance(f, size, 'x'), "Advance of an element": Advance(f, size, 'm'), "Kern": Kern(f, size, 'A', 'V'),
		"Ascent": Ascent(f, size), "Descent": Descent(f, size), "Height": Height(f, size),
	}
}

func TestInvalidFont(t *testing.T) {
	for _, f := range broken() {
		if Validate(f) == api.OK {
			t.Fatalf("P7.1: %v is valid", f)
		}
		for _, size := range sizes {
			for name, got := range numbers(f, size) {
				if got != 0 {
					t.Errorf("P7.2: %s of %v at size %d = %d, want 0", name, f, size, got)
				}
			}
		}
		if l, ok := Ligature(f, 'f', 'i'); l != (api.Ligature{}) || ok {
			t.Errorf("P7.2: Ligature of %v = %v, %v", f, l, ok)
		}
	}
}

func TestArgumentsUnchanged(t *testing.T) {
	f := sample()
	Validate(f)
	numbers(f, 16)
	Ligature(f, 'f', 'i')
	if g := sample(); !slices.Equal(f.Advances, g.Advances) || !slices.Equal(f.Kerns, g.Kerns) || !slices.Equal(f.Ligatures, g.Ligatures) {
		t.Errorf("R2: the font has become %v", f)
	}
}
