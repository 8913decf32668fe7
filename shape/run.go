package shape

import (
	"widgetry/api"
	"widgetry/char"
	"widgetry/fixed"
	"widgetry/font"
)

// run is what the glyphs of a run are determined from.
type run struct {
	f       api.Font // valid
	face    int
	size    int
	text    []rune
	right   bool   // from right to left
	divided []bool // for each position of the text whether it is a boundary of clusters
}

// singles returns a glyph for each rune, in logical order.
func (r run) singles(from, to int) []api.Glyph {
	forms := Forms(r.text)
	glyphs := make([]api.Glyph, 0, to-from)
	for at := from; at < to; at++ {
		glyphs = append(glyphs, api.Glyph{
			ID: int(r.shown(r.text[at])), Form: forms[at], From: at, To: at + 1,
			Advance: font.Advance(r.f, r.size, r.text[at]), Font: r.face, Size: r.size,
		})
	}
	return glyphs
}

// shown returns the rune that stands for c on the screen: a bracket opens in the direction of the run.
func (r run) shown(c rune) rune {
	if r.right {
		return char.Mirror(c)
	}
	return c
}

// ligate replaces pairs of single glyphs by their ligatures.
func (r run) ligate(singles []api.Glyph) []api.Glyph {
	glyphs := make([]api.Glyph, 0, len(singles))
	for i := 0; i < len(singles); i++ {
		g := singles[i]
		if i+1 < len(singles) {
			if l, ok := r.ligature(g.From); ok {
				g.ID, g.Form, g.To = l.Glyph, api.FormAlone, g.From+2
				g.Advance = fixed.Round(l.Width*r.size, r.f.Units)
				i++
			}
		}
		glyphs = append(glyphs, g)
	}
	return glyphs
}

// ligature returns the ligature of the runes at and at+1, if both are whole clusters and there is one.
func (r run) ligature(at int) (api.Ligature, bool) {
	if !r.divided[at] || !r.divided[at+1] || !r.divided[at+2] {
		return api.Ligature{}, false
	}
	return font.Ligature(r.f, r.text[at], r.text[at+1])
}

// kern moves glyphs that follow one another closer together or further apart, but not over one another.
func (r run) kern(glyphs []api.Glyph) {
	for i := 1; i < len(glyphs); i++ {
		at := glyphs[i].From
		if r.divided[at] {
			kerned := glyphs[i-1].Advance + font.Kern(r.f, r.size, r.text[at-1], r.text[at])
			glyphs[i-1].Advance = max(0, kerned)
		}
	}
}

// reverse returns the glyphs with the order of their clusters reversed. Within a cluster they keep their order: marks follow their base.
func (r run) reverse(glyphs []api.Glyph) []api.Glyph {
	reversed := make([]api.Glyph, 0, len(glyphs))
	for end := len(glyphs); end > 0; {
		start := end - 1
		for start > 0 && !r.divided[glyphs[start].From] {
			start--
		}
		reversed = append(reversed, glyphs[start:end]...)
		end = start
	}
	return reversed
}
