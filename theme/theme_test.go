package theme

import (
	"math"
	"testing"

	"widgetry/api"
)

// modes returns each variant at some scales, which Lookup ignores.
func modes() []api.Mode {
	var l []api.Mode
	for _, scale := range []int{math.MinInt, 0, 50, 100, 400, 401} {
		for _, dark := range []bool{false, true} {
			for _, high := range []bool{false, true} {
				l = append(l, api.Mode{Dark: dark, High: high, Scale: scale})
			}
		}
	}
	return l
}

// chosen is the value of a token in the words of P16.2.
func chosen(t api.Token, m api.Mode) int {
	switch [2]bool{m.Dark, m.High} {
	case [2]bool{true, true}:
		return t.HighDark
	case [2]bool{false, true}:
		return t.HighLight
	case [2]bool{true, false}:
		return t.Dark
	}
	return t.Light
}

func TestVariants(t *testing.T) {
	tests := []struct {
		m    api.Mode
		want int
	}{
		{api.Mode{Scale: 100}, 0x111111}, {api.Mode{Dark: true, Scale: 100}, 0x222222},
		{api.Mode{High: true, Scale: 100}, 0x333333}, {api.Mode{Dark: true, High: true, Scale: 100}, 0x444444},
		{api.Mode{}, 0x111111}, {api.Mode{Dark: true, High: true, Scale: -1}, 0x444444},
	}
	for _, x := range tests {
		if got, ok := Lookup(themeOf(named("ink")), x.m, "ink"); got != x.want || !ok {
			t.Errorf("P16.2: Lookup in the mode %v = %#x, %v, want %#x", x.m, got, ok, x.want)
		}
	}
}

func TestLookup(t *testing.T) {
	other := api.Token{Name: "paper", Light: -1, Dark: 0, HighLight: 0xFFFFFF, HighDark: 7}
	again := api.Token{Name: "ink", Light: 1, Dark: 2, HighLight: 3, HighDark: 4}
	// Lookup does not ask for a theme that Validate accepts.
	strange := api.Token{Light: math.MinInt, Dark: math.MaxInt, HighLight: -2, HighDark: 1 << 24}
	th := themeOf(named("ink"), other, again, strange, api.Token{Name: "9 \xff", Light: 5, Dark: 6})
	for _, m := range modes() {
		for name, want := range map[string]api.Token{"ink": th.Tokens[0], "paper": th.Tokens[1], "": th.Tokens[3], "9 \xff": th.Tokens[4]} {
			if got, ok := Lookup(th, m, name); got != chosen(want, m) || !ok {
				t.Errorf("P16.2: Lookup of %q in the mode %v = %d, %v, want %d", name, m, got, ok, chosen(want, m))
			}
		}
		for _, name := range []string{"Ink", "in", "inks", "ink ", "none", "9 \ufffd"} {
			if got, ok := Lookup(th, m, name); got != 0 || ok {
				t.Errorf("P16.2: Lookup of %q in the mode %v = %d, %v", name, m, got, ok)
			}
		}
		for _, name := range []string{"", "ink"} {
			if got, ok := Lookup(api.Theme{}, m, name); got != 0 || ok {
				t.Errorf("P16.2: Lookup of %q in an empty theme = %d, %v", name, got, ok)
			}
		}
	}
}

func TestLookupLong(t *testing.T) {
	th := numbered(150)
	th.Tokens[149].Light = 0xABCDEF
	if got, ok := Lookup(th, api.Mode{}, "t149"); got != 0xABCDEF || !ok {
		t.Errorf("P16.2: Lookup of the last one of 150 tokens = %#x, %v", got, ok)
	}
}

func TestSize(t *testing.T) {
	tests := []struct{ scale, size, want int }{
		{100, 16, 16}, {150, 16, 24}, {50, 16, 8}, {400, 16, 64}, {125, 10, 13}, {124, 10, 12}, {50, 3, 2}, {50, 1, 1}, {149, 1, 1}, {150, 1, 2}, {51, 25, 13},
		{100, 1000, 1000}, {101, 1000, 1000}, {400, 1000, 1000}, {400, 250, 1000}, {400, 251, 1000}, {399, 250, 998}, {50, 1000, 500}, {50, 999, 500},
		// A scale that is out of range leaves the size as it is.
		{49, 16, 16}, {401, 16, 16}, {0, 16, 16}, {-100, 16, 16}, {math.MinInt, 16, 16}, {math.MaxInt, 16, 16}, {0, 1000, 1000}, {401, 1, 1},
		// A size that is out of range is brought into it, but not scaled.
		{200, 0, 1}, {200, -5, 1}, {400, math.MinInt, 1}, {50, 1001, 1000}, {50, 2000, 1000}, {50, math.MaxInt, 1000}, {100, 1001, 1000},
		{49, 0, 1}, {401, 1001, 1000}, {0, math.MinInt, 1}, {math.MaxInt, math.MaxInt, 1000},
	}
	for _, x := range tests {
		for _, m := range []api.Mode{{}, {Dark: true}, {High: true}, {Dark: true, High: true}} {
			m.Scale = x.scale
			if got := Size(m, x.size); got != x.want {
				t.Errorf("P16.3: Size(%v, %d) = %d, want %d", m, x.size, got, x.want)
			}
		}
	}
}

// TestSizes compares Size at all scales and sizes with P16.3.
func TestSizes(t *testing.T) {
	for scale := 45; scale <= 405; scale++ {
		for size := -5; size <= 1005; size++ {
			want := size
			if scale >= 50 && scale <= 400 && size >= 1 && size <= 1000 {
				// None of these numbers is negative, so that / rounds down.
				want = (size*scale + 50) / 100
			}
			want = min(max(want, 1), 1000)
			if got := Size(api.Mode{Scale: scale}, size); got != want {
				t.Fatalf("P16.3: Size at the scale %d of %d = %d, want %d", scale, size, got, want)
			}
		}
	}
}

// noColors are numbers that are not from 0 to 0xFFFFFF; the lower bytes of some look like a color.
func noColors() []int {
	return []int{math.MinInt, math.MinInt + 0xFFFFFF, -0x1000000, -0xFFFFFF, -2, -1, 0x1000000, 0x1FFFFFF, 1 << 32, 1<<32 + 0x808080, math.MaxInt - 1, math.MaxInt}
}

func TestLuminance(t *testing.T) {
	tests := []struct{ color, want int }{
		{0, 0}, {0xFFFFFF, 1000}, {0xFF0000, 212}, {0x00FF00, 715}, {0x0000FF, 72}, {0xFFFF00, 927}, {0x00FFFF, 787}, {0xFF00FF, 284},
		{0x808080, 251}, {0x6C6C6C, 179}, {0x010101, 0}, {0x090909, 1}, {0x080808, 0}, {0x000001, 0}, {0x010000, 0}, {0x336699, 148}, {0xFEFFFF, 998}, {0xFFFFFE, 999}, {0xFFFEFF, 994},
	}
	for _, x := range tests {
		if got := Luminance(x.color); got != x.want {
			t.Errorf("P16.4: Luminance(%#x) = %d, want %d", x.color, got, x.want)
		}
	}
	for _, n := range noColors() {
		if got := Luminance(n); got != 0 {
			t.Errorf("P16.4: Luminance(%d) = %d, want 0", n, got)
		}
	}
}

// TestLuminances compares Luminance of all colors with P16.4: the quotient is at least as great, and less than one greater.
func TestLuminances(t *testing.T) {
	for r := range 256 {
		for g := range 256 {
			for b := range 256 {
				sum := 2126*r*r + 7152*g*g + 722*b*b
				got := Luminance(r*65536 + g*256 + b)
				if got*650250 > sum || (got+1)*650250 <= sum || got < 0 || got > 1000 {
					t.Fatalf("P16.4: Luminance of %d, %d, %d = %d", r, g, b, got)
				}
			}
		}
	}
}

// samples returns a color of each luminance.
func samples(t *testing.T) []int {
	t.Helper()
	l := make([]int, 1001)
	found := map[int]bool{}
	for color := range 1 << 24 {
		if n := Luminance(color); !found[n] {
			found[n], l[n] = true, color
		}
	}
	if len(found) != 1001 {
		t.Fatalf("P16.4: the colors have %d luminances", len(found))
	}
	return l
}

func TestContrast(t *testing.T) {
	tests := []struct{ a, b, want int }{
		{0, 0xFFFFFF, 2100}, {0, 0, 100}, {0xFFFFFF, 0xFFFFFF, 100}, {0x808080, 0x808080, 100}, {0, 0x010101, 100}, {0, 0x090909, 102},
		{0xFFFFFF, 0x808080, 348}, {0, 0x808080, 602}, {0xFF0000, 0xFFFFFF, 400}, {0x0000FF, 0xFFFFFF, 860}, {0x00FF00, 0, 1530}, {0x6C6C6C, 0, 458}, {0x6C6C6C, 0xFFFFFF, 458},
		{0xFF0000, 0x0000FF, 214}, {0x00FF00, 0xFF0000, 291},
	}
	for _, x := range tests {
		if got, back := Contrast(x.a, x.b), Contrast(x.b, x.a); got != x.want || back != x.want {
			t.Errorf("P16.4: Contrast of %#x and %#x = %d, and of the two exchanged %d, want %d", x.a, x.b, got, back, x.want)
		}
	}
	for _, n := range noColors() {
		for _, other := range append(noColors(), 0, 1, 0x808080, 0xFFFFFF) {
			if got, back := Contrast(n, other), Contrast(other, n); got != 0 || back != 0 {
				t.Errorf("P16.4: Contrast of %d and %d = %d, and of the two exchanged %d, want 0", n, other, got, back)
			}
		}
	}
}

// TestContrasts compares Contrast of colors of all luminances with P16.4, and checks the first sentence of P16.6.
func TestContrasts(t *testing.T) {
	l := samples(t)
	for x, a := range l {
		for y, b := range l[:x+1] {
			got := Contrast(a, b)
			if got*(y+50) > (x+50)*100 || (got+1)*(y+50) <= (x+50)*100 {
				t.Fatalf("P16.4: Contrast of %#x and %#x = %d", a, b, got)
			}
			if got != Contrast(b, a) || got < 100 || got > 2100 {
				t.Fatalf("P16.6: Contrast of %#x and %#x = %d, and of the two exchanged %d", a, b, got, Contrast(b, a))
			}
		}
	}
}

func TestReadable(t *testing.T) {
	tests := []struct{ color, background, least, want int }{
		{0x336699, 0xFFFFFF, 450, 0x336699}, {0x808080, 0xFFFFFF, 450, 0}, {0x808080, 0, 450, 0x808080}, {0x333333, 0, 450, 0xFFFFFF},
		// The contrast of 808080 to white is 348.
		{0x808080, 0xFFFFFF, 348, 0x808080}, {0x808080, 0xFFFFFF, 349, 0},
		{0x777777, 0x777777, 100, 0x777777}, {0x777777, 0x777777, 101, 0}, {0x111111, 0x111111, 101, 0xFFFFFF}, {0x777777, 0x777777, math.MinInt, 0x777777}, {0x777777, 0x777777, -1, 0x777777},
		// Black and white have the same contrast to 6C6C6C, which is lighter than 6B6B6B.
		{0x777777, 0x6C6C6C, 450, 0}, {0x777777, 0x6B6B6B, 450, 0xFFFFFF}, {0x777777, 0x6D6D6D, 450, 0}, {0xFFFFFF, 0x6C6C6C, 450, 0xFFFFFF}, {0xFFFFFF, 0x6C6C6C, 459, 0},
		// No color has so great a contrast.
		{0xFF0000, 0xFFFFFF, 2101, 0}, {0xFF0000, 0, math.MaxInt, 0xFFFFFF}, {0xFFFFFF, 0, 2100, 0xFFFFFF}, {0xFFFFFF, 0, 2101, 0xFFFFFF}, {0xFFFFFF, 0xFFFFFF, 450, 0}, {0, 0, 450, 0xFFFFFF},
	}
	for _, x := range tests {
		if got := Readable(x.color, x.background, x.least); got != x.want {
			t.Errorf("P16.5: Readable(%#x, %#x, %d) = %#x, want %#x", x.color, x.background, x.least, got, x.want)
		}
	}
}

func TestReadableNoColor(t *testing.T) {
	leasts := []int{math.MinInt, -1, 0, 1, 450, math.MaxInt}
	for _, n := range noColors() {
		for _, least := range leasts {
			for _, other := range append(noColors(), 0, 0x808080, 0xFFFFFF) {
				if got := Readable(n, other, least); got != n {
					t.Errorf("P16.5: Readable(%d, %d, %d) = %d", n, other, least, got)
				}
				if got := Readable(other, n, least); got != other {
					t.Errorf("P16.5: Readable(%d, %d, %d) = %d", other, n, least, got)
				}
			}
		}
	}
}

// TestReadables compares Readable for colors of all luminances with P16.5, and checks the second sentence of P16.6.
func TestReadables(t *testing.T) {
	l := samples(t)
	for _, least := range []int{0, 101, 300, 449, 450, 458, 459, 700} {
		for _, color := range l {
			for y, background := range l {
				got := Readable(color, background, least)
				want := 0xFFFFFF
				if Contrast(color, background) >= least {
					want = color
				} else if 2*(y+50) >= 105000/(y+50) {
					want = 0
				}
				if got != want {
					t.Fatalf("P16.5: Readable(%#x, %#x, %d) = %#x, want %#x", color, background, least, got, want)
				}
				if least <= 450 && Contrast(got, background) < least {
					t.Fatalf("P16.6: the contrast of Readable(%#x, %#x, %d) is %d", color, background, least, Contrast(got, background))
				}
			}
		}
	}
}
