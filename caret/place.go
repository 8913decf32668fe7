package caret

import (
	"slices"

	"widgetry/api"
)

// place is where a caret stands on the screen: in a line, before the cell with the index gap.
type place struct {
	line  int
	cells []api.Cell // of the line
	gap   int
	x     int
}

// place returns the place of c, and whether it has one.
func (t *text) place(c api.Caret) (place, bool) {
	i, edge := t.edge(c)
	if i < 0 {
		return place{}, false
	}
	line := t.lines[i]
	s := place{line: i, cells: t.cells(line)}
	for j, cell := range s.cells {
		switch edge {
		case leftEdge(cell):
			s.gap, s.x = j, cell.Left
			return s, true
		case rightEdge(cell):
			s.gap, s.x = j+1, cell.Right
			return s, true
		}
	}
	// The start of a line without cells, which has only one gap.
	s.x = line.X
	if !even(line.Level) {
		s.x += line.Width
	}
	return s, true
}

// edge returns the index of the line in which c stands, and the caret that is at an edge of a cell there if c has a place beside a cell.
// The index is -1 if c is not valid or there are no lines.
func (t *text) edge(c api.Caret) (int, api.Caret) {
	o, length := c.Offset, len(t.runes)
	if !t.isStop(o) {
		return -1, api.Caret{}
	}
	before := api.Caret{Offset: o, Before: true}
	if o > 0 && !newline(t.runes[o-1]) && (c.Before || o == length) {
		return slices.IndexFunc(t.lines, func(l api.Line) bool { return l.From < o && o <= l.To }), before
	}
	if o == length {
		return len(t.lines) - 1, before
	}
	i := slices.IndexFunc(t.lines, func(l api.Line) bool { return l.From <= o && o < l.To })
	return i, api.Caret{Offset: o, Before: newline(t.runes[o])}
}

// line returns the line with the index i, and whether there is one.
func (t *text) line(i int) (api.Line, bool) {
	if i < 0 || i >= len(t.lines) {
		return api.Line{}, false
	}
	return t.lines[i], true
}

// beside returns the line that a caret enters when it leaves the line with the index i on its left or on its right side.
func (t *text) beside(i int, left bool) (api.Line, bool) {
	if left == even(t.lines[i].Level) {
		return t.line(i - 1)
	}
	return t.line(i + 1)
}

// vertical returns the caret nearest to x in the line that is step lines below that of c.
func (t *text) vertical(c api.Caret, x, step int) api.Caret {
	i, _ := t.edge(c)
	if i < 0 {
		return c
	}
	line, ok := t.line(i + step)
	if !ok {
		return c
	}
	return t.nearest(api.Point{X: x, Y: line.Y})
}

// nearest returns the caret nearest to q.
func (t *text) nearest(q api.Point) api.Caret {
	if len(t.lines) == 0 {
		return api.Caret{}
	}
	line := t.lines[0]
	for _, l := range t.lines {
		if l.Y <= q.Y {
			line = l
		}
	}
	cells := t.cells(line)
	if len(cells) == 0 || q.X < cells[0].Left {
		return leftEnd(line, cells)
	}
	for _, cell := range cells {
		if cell.Left <= q.X && q.X < cell.Right {
			return nearerEdge(cell, q.X)
		}
	}
	return rightEnd(line, cells)
}

func nearerEdge(cell api.Cell, x int) api.Caret {
	if 2*x < cell.Left+cell.Right {
		return leftEdge(cell)
	}
	return rightEdge(cell)
}

// leftEnd returns the caret on the left of all cells of the line.
func leftEnd(line api.Line, cells []api.Cell) api.Caret {
	if len(cells) == 0 {
		return api.Caret{Offset: line.From}
	}
	return leftEdge(cells[0])
}

// rightEnd returns the caret on the right of all cells of the line.
func rightEnd(line api.Line, cells []api.Cell) api.Caret {
	if len(cells) == 0 {
		return api.Caret{Offset: line.From}
	}
	return rightEdge(cells[len(cells)-1])
}
