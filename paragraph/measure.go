package paragraph

import (
	"widgetry/api"
	"widgetry/bidi"
	"widgetry/char"
	"widgetry/fixed"
	"widgetry/font"
)

// measure is what a rune contributes to the width of a line.
type measure struct {
	advance  int  // of its own glyph
	kern     int  // what it adds to the advance of the glyph before it
	ligates  bool // it forms a ligature with the rune after it
	ligature int  // the advance of that
}

// measure returns the measure of the rune at. What it says of a rune beside it holds if both are in one run.
func (t *text) measure(at int) measure {
	s := t.span(at)
	f := t.fonts[s.Font]
	m := measure{advance: font.Advance(f, s.Size, t.Text[at])}
	if at > 0 && t.divided[at] {
		m.kern = font.Kern(f, s.Size, t.Text[at-1], t.Text[at])
	}
	if at+1 < len(t.Text) && t.divided[at] && t.divided[at+1] && t.divided[at+2] {
		var l api.Ligature
		l, m.ligates = font.Ligature(f, t.Text[at], t.Text[at+1])
		m.ligature = fixed.Round(l.Width*s.Size, f.Units)
	}
	return m
}

// run is a part of a line in one span and of one level: the runes from to to-1.
type run struct{ from, to, level int }

// runs returns the runs of the line of s from from to to, in logical order.
func (t *text) runs(s section, from, to int) []run {
	var runs []run
	levels := t.levels(s, from, to)
	for i, level := range levels {
		at := from + i
		if i > 0 && level == levels[i-1] && t.spanOf[at] == t.spanOf[at-1] {
			runs[len(runs)-1].to = at + 1
		} else {
			runs = append(runs, run{from: at, to: at + 1, level: level})
		}
	}
	return runs
}

// levels returns the levels of the runes of a line. The runes of a cluster stay together: they have the level of the first one.
func (t *text) levels(s section, from, to int) []int {
	levels := bidi.Reset(t.Text[s.from:s.to], s.levels, s.base, from-s.from, to-s.from)
	for i := 1; i < len(levels); i++ {
		if !t.divided[from+i] {
			levels[i] = levels[i-1]
		}
	}
	return levels
}

// fitting returns the width that the line of s from from to to needs.
func (t *text) fitting(s section, from, to int) int {
	width, shown := 0, t.shownEnd(from, to)
	for _, r := range t.runs(s, from, to) {
		width += t.extent(r, shown)
	}
	return width
}

// shownEnd returns where the white space at the end of the runes from from to to-1 begins.
func (t *text) shownEnd(from, to int) int {
	for to > from && (endsLine(t.Text[to-1]) || char.Line(t.Text[to-1]) == api.LineSP) {
		to--
	}
	return to
}

// extent returns the sum of the advances of the glyphs of r that begin before end.
// They are those of shape.Run; it would go through the whole text for each end of a line that is examined.
func (t *text) extent(r run, end int) int {
	sum := 0
	for at := r.from; at < min(r.to, end); {
		m, next := t.measures[at], at+1
		advance := m.advance
		if m.ligates && next < r.to {
			advance, next = m.ligature, at+2
		}
		if next < r.to {
			advance = max(0, advance+t.measures[next].kern)
		}
		sum += advance
		at = next
	}
	return sum
}
