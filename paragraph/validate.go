package paragraph

import (
	"widgetry/api"
	"widgetry/font"
)

// Validate returns OK if p is a valid paragraph with the fonts, otherwise what is wrong with them.
func Validate(p api.Paragraph, fonts []api.Font) api.Errno {
	if len(p.Text) > api.MaxText || len(p.Spans) > api.MaxKids || len(fonts) > api.MaxFonts {
		return api.ErrTooLong
	}
	if !numbersInRange(p, len(fonts)) {
		return api.ErrRange
	}
	for _, f := range fonts {
		if e := font.Validate(f); e != api.OK {
			return e
		}
	}
	if !cover(p.Spans, len(p.Text)) {
		return api.ErrOrder
	}
	return api.OK
}

func numbersInRange(p api.Paragraph, fonts int) bool {
	if !within(p.Base, api.BaseAuto, api.BaseRight) || !within(p.Align, api.AlignStart, api.AlignCenter) || !within(p.Width, 0, api.MaxLength) {
		return false
	}
	for _, s := range p.Spans {
		if !within(s.Font, 0, fonts-1) || !within(s.Size, 1, api.MaxSize) {
			return false
		}
	}
	return true
}

// cover reports whether the spans follow one another from the beginning of a text to its end.
func cover(spans []api.Span, length int) bool {
	if length == 0 {
		return len(spans) == 1 && spans[0].From == 0 && spans[0].To == 0
	}
	end := 0
	for _, s := range spans {
		if s.From != end || s.To <= s.From {
			return false
		}
		end = s.To
	}
	return end == length
}

func within(x, low, high int) bool {
	return low <= x && x <= high
}
