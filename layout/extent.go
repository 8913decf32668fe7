package layout

import (
	"widgetry/api"
	"widgetry/box"
	"widgetry/paragraph"
	"widgetry/view"
)

// The two widths that the content of an element needs.
const (
	least = 0
	most  = 1
)

// width returns Least or Most of e.
func (e *element) width(need int) int {
	return e.known.widths.get(need, func(need int) int {
		return e.limitWidth(e.contentWidth(need) + e.padAcross())
	})
}

func (e *element) contentWidth(need int) int {
	switch e.way() {
	case asText:
		return textWidth(need, e.paragraph(0), e.fonts)
	case asFigure:
		return length(view.Number(e.Attrs, "width", 0))
	case asRow:
		return sumOf(e.childWidths(need)) + e.gaps()
	case asGrid:
		return e.table().width(need)
	}
	return greatest(e.childWidths(need))
}

func (e *element) childWidths(need int) []int {
	l := make([]int, len(e.children))
	for i, kid := range e.children {
		l[i] = kid.width(need)
	}
	return l
}

// height returns Height of e for the width w.
func (e *element) height(w int) int {
	return e.known.heights.get(length(w), func(w int) int {
		return e.limitHeight(e.contentHeight(e.innerWidth(w)) + e.padDown())
	})
}

func (e *element) contentHeight(iw int) int {
	switch e.way() {
	case asText:
		return paragraph.Height(e.lines(iw))
	case asFigure:
		return length(view.Number(e.Attrs, "height", 0))
	case asColumn:
		if basis := e.style[api.PropBasis]; e.isScrolling() && basis >= 0 {
			return basis
		}
		return sumOf(e.childHeights(e.columnWidths(iw))) + e.gaps()
	case asRow:
		return e.rowHeight(e.rowWidths(iw))
	}
	return lowest(e.contentRects(iw, 0))
}

// rowHeight returns the height of the content of a row whose children have these widths.
func (e *element) rowHeight(widths []int) int {
	heights := e.childHeights(widths)
	if !e.alignsBaselines() {
		return greatest(heights)
	}
	_, height := box.Baseline(heights, e.childBaselines(widths))
	return height
}

// lowest returns the greatest bottom of rectangles that do not begin above 0, or 0.
func lowest(l []api.Rect) int {
	bottom := 0
	for _, r := range l {
		bottom = max(bottom, r.Y+r.H)
	}
	return bottom
}

// childHeights returns the heights of the children, which have these widths.
func (e *element) childHeights(widths []int) []int {
	l := make([]int, len(e.children))
	for i, kid := range e.children {
		l[i] = kid.height(widths[i])
	}
	return l
}

// childBaselines returns the baselines of the children, which have these widths, as far as they are extents.
func (e *element) childBaselines(widths []int) []int {
	l := make([]int, len(e.children))
	for i, kid := range e.children {
		l[i] = length(kid.baseline(widths[i]))
	}
	return l
}

// baseline returns the baseline of e if it has the width w and the height that it needs for that.
func (e *element) baseline(w int) int {
	return e.known.baselines.get(length(w), func(w int) int {
		if e.way() == asText {
			return e.firstBaseline(w)
		}
		h := e.height(w)
		if l := e.arrange(w, h); len(l) > 0 {
			return l[0].Y + e.children[0].baseline(l[0].W)
		}
		return h
	})
}
