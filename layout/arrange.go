package layout

import (
	"widgetry/api"
	"widgetry/box"
	"widgetry/geometry"
)

// settle gives e the rectangle r and its descendants theirs, and reports whether all of them are valid.
func (e *element) settle(r api.Rect) bool {
	if geometry.Validate(r) != api.OK {
		return false
	}
	e.rect = r
	for i, part := range e.arrange(r.W, r.H) {
		if !e.children[i].settle(part) {
			return false
		}
	}
	return true
}

// box returns the box of e, which is settled.
func (e *element) box() api.Box {
	b := api.Box{ID: e.ID, Rect: e.rect, Baseline: e.settledBaseline()}
	if e.way() == asText {
		b.Lines = e.placedLines()
	}
	return b
}

// settledBaseline returns the baseline of e in its rectangle.
func (e *element) settledBaseline() int {
	if e.way() == asText {
		return e.firstBaseline(e.rect.W)
	}
	if len(e.children) > 0 {
		first := e.children[0]
		return first.rect.Y + first.settledBaseline()
	}
	return e.rect.H
}

// arrange returns the rectangles of the children relative to e, which has the extent w, h.
func (e *element) arrange(w, h int) []api.Rect {
	l, at := e.contentRects(e.innerWidth(w), e.innerHeight(h)), e.corner()
	for i := range l {
		l[i].X += at.X
		l[i].Y += at.Y
	}
	return l
}

// contentRects returns the rectangles of the children relative to the content of e, which has the extent iw, ih. The height does not matter for grids and places.
func (e *element) contentRects(iw, ih int) []api.Rect {
	switch e.way() {
	case asColumn:
		return e.columnRects(iw, ih)
	case asRow:
		return e.rowRects(iw, ih)
	case asGrid:
		return e.gridRects(iw)
	case asPlace:
		return e.placeRects(iw)
	}
	return nil
}

// columnWidths returns the widths of the children of a column.
func (e *element) columnWidths(iw int) []int {
	l := make([]int, len(e.children))
	for i, kid := range e.children {
		if e.isStretching() {
			l[i] = kid.limitWidth(iw)
		} else {
			l[i] = kid.fittingWidth(iw)
		}
	}
	return l
}

// fittingWidth returns the width of e if it takes no more than it needs of iw.
func (e *element) fittingWidth(iw int) int {
	return e.limitWidth(min(iw, e.width(most)))
}

func (e *element) columnRects(iw, ih int) []api.Rect {
	widths := e.columnWidths(iw)
	heights, justify := e.columnHeights(ih, widths), e.style[api.PropJustify]
	if e.isScrolling() {
		justify = api.AlignStart
	}
	align := e.style[api.PropAlign]
	if e.isStretching() {
		align = api.AlignStart
	}
	l := make([]api.Rect, len(e.children))
	for i, y := range box.Offsets(ih, e.style[api.PropGap], justify, heights, false) {
		x, _ := box.Align(align, iw, widths[i], e.isReversed())
		l[i] = api.Rect{X: x, Y: y, W: widths[i], H: heights[i]}
	}
	return l
}

// columnHeights returns the heights of the children of a column, which have these widths.
func (e *element) columnHeights(ih int, widths []int) []int {
	needed := e.childHeights(widths)
	if e.isScrolling() {
		return needed
	}
	l := make([]api.Flex, len(e.children))
	for i, kid := range e.children {
		s := kid.style
		l[i] = api.Flex{Basis: s[api.PropBasis], Min: s[api.PropMinHeight], Max: s[api.PropMaxHeight], Grow: s[api.PropGrow], Shrink: s[api.PropShrink]}
		if l[i].Basis < 0 {
			// This is no less than the least height of the child.
			l[i].Basis, l[i].Min = needed[i], needed[i]
		}
	}
	// There is no error: all numbers come from styles or are extents.
	heights, _ := box.Resolve(ih, e.style[api.PropGap], l)
	return heights
}

// rowWidths returns the widths of the children of a row.
func (e *element) rowWidths(iw int) []int {
	l := make([]api.Flex, len(e.children))
	for i, kid := range e.children {
		s := kid.style
		// Least is no less than the least width of the child.
		l[i] = api.Flex{Basis: s[api.PropBasis], Min: kid.width(least), Max: s[api.PropMaxWidth], Grow: s[api.PropGrow], Shrink: s[api.PropShrink]}
		if l[i].Basis < 0 {
			l[i].Basis = kid.width(most)
		}
	}
	// There is no error: all numbers come from styles or are extents.
	widths, _ := box.Resolve(iw, e.style[api.PropGap], l)
	return widths
}

func (e *element) rowRects(iw, ih int) []api.Rect {
	widths := e.rowWidths(iw)
	l := e.acrossRow(ih, widths)
	for i, x := range box.Offsets(iw, e.style[api.PropGap], e.style[api.PropJustify], widths, e.isReversed()) {
		l[i].X, l[i].W = x, widths[i]
	}
	return l
}

// acrossRow returns Y and H of the children of a row, which have these widths.
func (e *element) acrossRow(ih int, widths []int) []api.Rect {
	heights := e.childHeights(widths)
	l := make([]api.Rect, len(heights))
	if e.alignsBaselines() {
		offsets, _ := box.Baseline(heights, e.childBaselines(widths))
		for i, y := range offsets {
			l[i].Y, l[i].H = y, heights[i]
		}
		return l
	}
	for i, h := range heights {
		y, extent := box.Align(e.style[api.PropAlign], ih, h, false)
		// Only what is stretched can be beyond the limits.
		l[i].Y, l[i].H = y, e.children[i].limitHeight(extent)
	}
	return l
}
