package layout

import (
	"slices"

	"widgetry/api"
	"widgetry/paragraph"
	"widgetry/view"
)

// textOf returns the runes of n that are laid out.
func textOf(n api.Node) []rune {
	text := []rune(view.Text(n.Attrs, "text"))
	return text[:min(len(text), api.MaxText)]
}

// spans returns the spans that n describes for p, its paragraph, or if they are not right for that, one with the whole text.
func spans(p api.Paragraph, n api.Node, s api.Style, fonts int) []api.Span {
	p.Spans = described(n)
	if paragraph.Validate(p, anyFonts(fonts)) == api.OK {
		return p.Spans
	}
	face := s[api.PropFontFace]
	if face >= fonts {
		face = 0
	}
	return []api.Span{{To: len(p.Text), Font: face, Size: s[api.PropFontSize]}}
}

// described returns the spans that the attribute of n lists, or none, which are right for no text.
func described(n api.Node) []api.Span {
	v, _ := view.Attr(n.Attrs, "spans")
	var l []api.Span
	for _, row := range elementsOf(v) {
		x := ints(row)
		if len(x) != 4 {
			return nil
		}
		l = append(l, api.Span{From: x[0], To: x[1], Font: x[2], Size: x[3]})
	}
	return l
}

// elementsOf returns the elements of a list, or none if v is not one.
func elementsOf(v api.Value) []api.Value {
	if v.Kind != api.ValueList {
		return nil
	}
	return v.L
}

// ints returns the elements of a list of ints, or none if v is not one.
func ints(v api.Value) []int {
	var l []int
	for _, x := range elementsOf(v) {
		if x.Kind != api.ValueInt {
			return nil
		}
		l = append(l, x.N)
	}
	return l
}

// anyFonts returns so many valid fonts. A paragraph is checked with them where only their number matters.
func anyFonts(n int) []api.Font {
	return slices.Repeat([]api.Font{{Units: 16, Ascent: 1}}, n)
}

// paragraph returns the text of e as a paragraph of that width.
func (e *element) paragraph(width int) api.Paragraph {
	return Paragraph(e.Node, e.style, len(e.fonts), width)
}

func textWidth(need int, p api.Paragraph, fonts []api.Font) int {
	if need == least {
		return paragraph.Least(p, fonts)
	}
	return paragraph.Most(p, fonts)
}

// lines returns the lines of a text in the inner width iw. There is at least one.
func (e *element) lines(iw int) []api.Line {
	return e.known.lines.get(iw, func(iw int) []api.Line {
		// There is no error: the fonts are valid, and so is each result of Paragraph.
		l, _ := paragraph.Lines(e.paragraph(iw), e.fonts)
		return l
	})
}

// firstBaseline returns the baseline of a text of the width w: that of its first line.
func (e *element) firstBaseline(w int) int {
	return e.corner().Y + e.lines(e.innerWidth(w))[0].Ascent
}

// placedLines returns the lines of a text in the rectangle of e, relative to that.
func (e *element) placedLines() []api.Line {
	l, at := slices.Clone(e.lines(e.innerWidth(e.rect.W))), e.corner()
	for i := range l {
		line := &l[i]
		line.X += at.X
		line.Y += at.Y
		line.Glyphs = slices.Clone(line.Glyphs)
		for k := range line.Glyphs {
			line.Glyphs[k].X += at.X
		}
	}
	return l
}
