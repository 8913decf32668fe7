package font

import "widgetry/api"

const (
	leastUnits = 16
	mostUnits  = 4096 // also of every width and height
	mostRows   = 100  // the elements of each list
	mostKern   = 1000 // the adjustment of a Kern, and its negative
	mostRune   = 0x10FFFF
	// The glyphs of ligatures are beyond the runes, which are their own glyphs.
	leastGlyph = 0x110000
	mostGlyph  = 0x1FFFFF
)

// Validate returns OK if f is a valid font, otherwise what is wrong with it.
func Validate(f api.Font) api.Errno {
	switch {
	case len(f.Advances) > mostRows || len(f.Kerns) > mostRows || len(f.Ligatures) > mostRows:
		return api.ErrTooLong
	case !metricsInRange(f) || !listsInRange(f):
		return api.ErrRange
	case !listsInOrder(f):
		return api.ErrOrder
	}
	return api.OK
}

func metricsInRange(f api.Font) bool {
	if !within(f.Units, leastUnits, mostUnits) {
		return false
	}
	for _, x := range [4]int{f.Ascent, f.Descent, f.Gap, f.Default} {
		if !length(x) {
			return false
		}
	}
	return f.Ascent+f.Descent >= 1
}

func listsInRange(f api.Font) bool {
	for _, a := range f.Advances {
		if !isRune(a.From) || !isRune(a.To) || !length(a.Width) {
			return false
		}
	}
	for _, k := range f.Kerns {
		if !isRune(k.A) || !isRune(k.B) || !within(k.D, -mostKern, mostKern) {
			return false
		}
	}
	// The chapter sets no limits to the runes of a ligature.
	for _, l := range f.Ligatures {
		if !within(l.Glyph, leastGlyph, mostGlyph) || !length(l.Width) {
			return false
		}
	}
	return true
}

func listsInOrder(f api.Font) bool {
	for _, a := range f.Advances {
		if a.From > a.To {
			return false
		}
	}
	return ascending(f.Advances, func(x, y api.Advance) bool { return x.To < y.From }) &&
		ascending(f.Kerns, func(x, y api.Kern) bool { return precedes(x.A, x.B, y.A, y.B) }) &&
		ascending(f.Ligatures, func(x, y api.Ligature) bool { return precedes(x.A, x.B, y.A, y.B) })
}

// ascending reports whether each element of l is less than the one after it.
func ascending[E any](l []E, less func(x, y E) bool) bool {
	for i := 1; i < len(l); i++ {
		if !less(l[i-1], l[i]) {
			return false
		}
	}
	return true
}

// precedes reports whether the pair of a and b stands before the pair of c and d.
func precedes(a, b, c, d rune) bool {
	return a < c || a == c && b < d
}

// isRune reports whether r is a number of a rune; the surrogates are not left out.
func isRune(r rune) bool {
	return 0 <= r && r <= mostRune
}

// length reports whether x can be a width or a height in font units.
func length(x int) bool {
	return within(x, 0, mostUnits)
}

func within(x, low, high int) bool {
	return low <= x && x <= high
}
