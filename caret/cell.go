package caret

import (
	"slices"

	"widgetry/api"
	"widgetry/bidi"
	"widgetry/fixed"
)

// cells returns the cells of the line from left to right.
func (t *text) cells(line api.Line) []api.Cell {
	levels := bidi.Reset(t.runes, t.levels, line.Level, line.From, line.To)
	if len(levels) == 0 {
		return nil
	}
	var cells []api.Cell
	indices := slices.Repeat([]int{-1}, len(levels)) // of the cells, at the first rune of each
	for _, g := range line.Glyphs {
		// Lines of another text can have glyphs that are not in it.
		if g.From < line.From || g.From >= g.To || g.To > line.To {
			continue
		}
		for _, part := range t.parts(g, line, levels) {
			// The cluster of a newline has no other runes.
			if newline(t.runes[part.From]) {
				continue
			}
			i := &indices[part.From-line.From]
			if *i < 0 {
				*i = len(cells)
				cells = append(cells, part)
			}
			join(&cells[*i], part)
		}
	}
	return cells
}

// parts returns what the glyph gives to the cells of the clusters that it covers, from left to right.
func (t *text) parts(g api.Glyph, line api.Line, levels []int) []api.Cell {
	first, last := t.cluster(g.From, line, levels), t.cluster(g.To-1, line, levels)
	first.Left, first.Right = g.X, g.X+g.Advance
	if first.From == last.From {
		return []api.Cell{first}
	}
	last.Left, last.Right = first.Left, first.Right
	half := fixed.Floor(g.Advance, 2)
	if even(first.Level) {
		first.Right = first.Left + half
		last.Left = first.Right
		return []api.Cell{first, last}
	}
	first.Left = first.Right - half
	last.Right = first.Left
	return []api.Cell{last, first}
}

// cluster returns a cell, without a place, for the cluster of the rune at. All runes of a cluster have the level of the first one.
func (t *text) cluster(at int, line api.Line, levels []int) api.Cell {
	from := max(t.starts[at], line.From)
	return api.Cell{From: from, To: min(t.ends[at], line.To), Level: levels[from-line.From]}
}

// join makes the cell wide enough for a part of its cluster. A part without width counts only if there is no other.
func join(cell *api.Cell, part api.Cell) {
	switch {
	case cell.Left == cell.Right:
		cell.Left, cell.Right = part.Left, part.Right
	case part.Left < part.Right:
		cell.Left, cell.Right = min(cell.Left, part.Left), max(cell.Right, part.Right)
	}
}

// leftEdge returns the caret on the left side of the cell.
func leftEdge(cell api.Cell) api.Caret {
	if even(cell.Level) {
		return api.Caret{Offset: cell.From}
	}
	return api.Caret{Offset: cell.To, Before: true}
}

// rightEdge returns the caret on the right side of the cell.
func rightEdge(cell api.Cell) api.Caret {
	if even(cell.Level) {
		return api.Caret{Offset: cell.To, Before: true}
	}
	return api.Caret{Offset: cell.From}
}

// selected returns the rectangles of those cells of the line that lie within the runes from from to to-1.
func selected(line api.Line, cells []api.Cell, from, to int) []api.Rect {
	var rects []api.Rect
	adjacent := false
	for _, cell := range cells {
		inside := from <= cell.From && cell.To <= to
		if inside && !adjacent {
			rects = append(rects, api.Rect{X: cell.Left, Y: line.Y, H: line.Height})
		}
		if inside {
			last := &rects[len(rects)-1]
			last.W = cell.Right - last.X
		}
		adjacent = inside
	}
	return slices.DeleteFunc(rects, func(r api.Rect) bool { return r.W == 0 })
}
