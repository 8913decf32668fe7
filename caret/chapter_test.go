package caret

import (
	"slices"
	"testing"

	"widgetry/api"
	"widgetry/bidi"
	"widgetry/char"
	"widgetry/fixed"
	"widgetry/linebreak"
	"widgetry/segment"
)

// chapter reads P10.1 to P10.6 step by step.
type chapter struct {
	p     api.Paragraph
	l     []api.Line
	cells [][]api.Cell // of each line
	found map[api.Caret]bool
}

func newChapter(t *testing.T, p api.Paragraph) chapter {
	t.Helper()
	c := chapter{p: p, l: linesOf(t, p), found: map[api.Caret]bool{}}
	for _, line := range c.l {
		c.cells = append(c.cells, c.cellsOf(line))
	}
	return c
}

func (c chapter) newline(at int) bool {
	return slices.Contains([]int{api.LineBK, api.LineCR, api.LineLF}, char.Line(c.p.Text[at]))
}

// levels returns the levels of the runes of the line (P9.3).
func (c chapter) levels(line api.Line) []int {
	from := line.From
	breaks := linebreak.Breaks(c.p.Text)
	for from > 0 && breaks[from-1] != api.Mandatory {
		from--
	}
	to := line.From + 1
	for breaks[to-1] != api.Mandatory {
		to++
	}
	section := c.p.Text[from:to]
	levels := bidi.Reset(section, bidi.Levels(section, c.p.Base), bidi.Base(section, c.p.Base), line.From-from, line.To-from)
	clusters := segment.Clusters(c.p.Text)
	for i := 1; i < len(levels); i++ {
		if !slices.Contains(clusters, line.From+i) {
			levels[i] = levels[i-1]
		}
	}
	return levels
}

// cellsOf returns the cells of a line, in the order of their first glyphs and then of their left edges.
func (c chapter) cellsOf(line api.Line) []api.Cell {
	if line.From == line.To {
		return nil
	}
	levels := c.levels(line)
	var cells []api.Cell
	var firsts []int
	clusters := segment.Clusters(c.p.Text)
	for i := 1; i < len(clusters); i++ {
		from, to := max(clusters[i-1], line.From), min(clusters[i], line.To)
		shown := false
		for at := from; at < to; at++ {
			shown = shown || !c.newline(at)
		}
		if shown {
			cell, first := c.cell(line, from, to, levels[from-line.From])
			cells, firsts = append(cells, cell), append(firsts, first)
		}
	}
	order := make([]int, len(cells))
	for i := range order {
		order[i] = i
	}
	slices.SortStableFunc(order, func(i, j int) int {
		if firsts[i] != firsts[j] {
			return firsts[i] - firsts[j]
		}
		if cells[i].Level%2 == 0 {
			return i - j
		}
		return j - i
	})
	var sorted []api.Cell
	for _, i := range order {
		sorted = append(sorted, cells[i])
	}
	return sorted
}

// cell returns a cell and the index of its first glyph.
func (c chapter) cell(line api.Line, from, to, level int) (api.Cell, int) {
	cell, first := api.Cell{From: from, To: to, Level: level}, -1
	for _, wide := range []bool{true, false} {
		found := false
		for i, g := range line.Glyphs {
			if g.To <= from || g.From >= to {
				continue
			}
			if first < 0 || i < first {
				first = i
			}
			if wide && g.Advance == 0 {
				continue
			}
			left, right := c.part(g, from, to, level)
			if !found {
				cell.Left, cell.Right, found = left, right, true
			}
			cell.Left, cell.Right = min(cell.Left, left), max(cell.Right, right)
		}
		if found {
			break
		}
	}
	return cell, first
}

// part returns the edges of what a glyph gives to the cluster from from to to.
func (c chapter) part(g api.Glyph, from, to, level int) (int, int) {
	half := fixed.Floor(g.Advance, 2)
	switch even := level%2 == 0; {
	case from <= g.From && g.To <= to:
		return g.X, g.X + g.Advance
	case from <= g.From && even:
		return g.X, g.X + half
	case from <= g.From:
		return g.X + g.Advance - half, g.X + g.Advance
	case even:
		return g.X + half, g.X + g.Advance
	}
	return g.X, g.X + g.Advance - half
}

// placed is a place on the screen: in a line, at an edge of a cell, or, without a cell, at the start of the line.
type placed struct {
	line, x int
	cell    int // -1: none
	right   bool
}

// edge returns the place of the edge {o, before} in the line i.
func (c chapter) edge(i, o int, before bool) (placed, bool) {
	for k, cell := range c.cells[i] {
		at := cell.From
		if before {
			at = cell.To
		}
		if at == o {
			right := before == (cell.Level%2 == 0)
			x := cell.Left
			if right {
				x = cell.Right
			}
			return placed{line: i, x: x, cell: k, right: right}, true
		}
	}
	return placed{}, false
}

func (c chapter) start(i int) placed {
	x := c.l[i].X
	if c.l[i].Level%2 != 0 {
		x += c.l[i].Width
	}
	return placed{line: i, x: x, cell: -1}
}

// find reads P10.2.
func (c chapter) find(k api.Caret) (placed, bool) {
	o, n := k.Offset, len(c.p.Text)
	if o < 0 || o > n || o != 0 && !slices.Contains(segment.Clusters(c.p.Text), o) {
		return placed{}, false
	}
	ending := slices.IndexFunc(c.l, func(line api.Line) bool { return line.From < o && o <= line.To })
	beginning := slices.IndexFunc(c.l, func(line api.Line) bool { return line.From <= o && o < line.To })
	switch {
	case k.Before && o != 0 && !c.newline(o-1):
		return c.edge(ending, o, true)
	case o < n && c.newline(o):
		if s, ok := c.edge(beginning, o, true); ok {
			return s, true
		}
		return c.start(beginning), true
	case o < n:
		return c.edge(beginning, o, false)
	case n == 0 || c.newline(n-1):
		return c.start(len(c.l) - 1), true
	}
	return c.edge(ending, o, true)
}

// end returns the caret at the edge of a cell.
func end(cell api.Cell, right bool) api.Caret {
	if right == (cell.Level%2 == 0) {
		return after(cell.To)
	}
	return on(cell.From)
}

// at reads P10.3.
func (c chapter) at(q api.Point) api.Caret {
	i := slices.IndexFunc(c.l, func(line api.Line) bool { return line.Y <= q.Y && q.Y < line.Y+line.Height })
	if i < 0 && q.Y >= 0 {
		i = len(c.l) - 1
	}
	i = max(i, 0)
	cells := c.cells[i]
	if len(cells) == 0 {
		return on(c.l[i].From)
	}
	if !slices.ContainsFunc(cells, func(cell api.Cell) bool { return cell.Left <= q.X }) {
		return end(cells[0], false)
	}
	for _, cell := range cells {
		if cell.Left <= q.X && q.X < cell.Right {
			return end(cell, 2*q.X >= cell.Left+cell.Right)
		}
	}
	return end(cells[len(cells)-1], true)
}

// sideways reads P10.4.
func (c chapter) sideways(k api.Caret, right bool) api.Caret {
	s, ok := c.find(k)
	if !ok {
		return k
	}
	cells := c.cells[s.line]
	even := c.l[s.line].Level%2 == 0
	gap := s.cell
	switch {
	case s.cell < 0 && even:
		gap = 0
	case s.cell < 0:
		gap = len(cells)
	case s.right:
		gap++
	}
	if right && gap < len(cells) {
		return end(cells[gap], true)
	}
	if !right && gap > 0 {
		return end(cells[gap-1], false)
	}
	next := s.line - 1
	if right == even {
		next = s.line + 1
	}
	if next < 0 || next >= len(c.l) {
		return k
	}
	cells = c.cells[next]
	switch {
	case len(cells) == 0:
		return on(c.l[next].From)
	case right:
		return end(cells[0], false)
	}
	return end(cells[len(cells)-1], true)
}

// vertical, home and last read P10.5.
func (c chapter) vertical(k api.Caret, x, step int) api.Caret {
	s, ok := c.find(k)
	if !ok || s.line+step < 0 || s.line+step >= len(c.l) {
		return k
	}
	return c.at(api.Point{X: x, Y: c.l[s.line+step].Y})
}

func (c chapter) home(k api.Caret) api.Caret {
	if s, ok := c.find(k); ok {
		return on(c.l[s.line].From)
	}
	return k
}

func (c chapter) last(k api.Caret) api.Caret {
	s, ok := c.find(k)
	if !ok {
		return k
	}
	line := c.l[s.line]
	clusters := segment.Clusters(c.p.Text)
	for i := len(clusters) - 1; i > 0; i-- {
		if line.From <= clusters[i-1] && clusters[i] <= line.To && !c.newline(clusters[i-1]) {
			return after(clusters[i])
		}
	}
	return on(line.From)
}

// selection reads P10.6.
func (c chapter) selection(from, to int) []api.Rect {
	if to < from {
		from, to = to, from
	}
	var rects []api.Rect
	for k, line := range c.l {
		cells := c.cells[k]
		for i := 0; i < len(cells); i++ {
			j := i
			for j < len(cells) && from <= cells[j].From && cells[j].To <= to {
				j++
			}
			if j == i {
				continue
			}
			if w := cells[j-1].Right - cells[i].Left; w > 0 {
				rects = append(rects, api.Rect{X: cells[i].Left, Y: line.Y, W: w, H: line.Height})
			}
			i = j - 1
		}
	}
	return rects
}

// everyText calls use with each text of the length over the runes.
func everyText(runes []rune, length int, use func(text []rune)) {
	text := make([]rune, length)
	var fill func(at int)
	fill = func(at int) {
		if at == length {
			use(text)
			return
		}
		for _, r := range runes {
			text[at] = r
			fill(at + 1)
		}
	}
	fill(0)
}

// TestTextsOfManyKinds compares all functions for all short texts over runes of many kinds with the chapter.
func TestTextsOfManyKinds(t *testing.T) {
	t.Parallel()
	kinds := []rune{'f', 'i', ' ', '1', '\t', '\n', '\r', alef, bet, acute, visarga, sign, forced, isolate, '(', 0x2028, 0x1F1E6}
	for length := range 3 {
		everyText(kinds, length, func(text []rune) {
			for _, base := range []int{api.BaseAuto, api.BaseLeft, api.BaseRight} {
				for _, width := range []int{60, 500} {
					check(t, plain(text, base, width))
				}
			}
		})
	}
	everyText(kinds[:13], 3, func(text []rune) { check(t, spanned(text, int(text[0])%2, 100*(int(text[1])%3), 1+int(text[0])%2, 3)) })
}

// TestLongerTexts compares the functions for texts over a few runes, in one span and in two.
func TestLongerTexts(t *testing.T) {
	t.Parallel()
	for _, runes := range [][]rune{{'a', ' ', alef, '\n'}, {'f', 'i', ' ', forced}, {bet, '1', acute, sign}, {gimel, '\r', '\n', 'f'}, {alef, bet, visarga, 'a'}} {
		everyText(runes, 4, func(text []rune) {
			p := plain(text, int(text[0])%3-1, 50*(int(text[1])%5))
			p.Align = int(text[2]) % 3
			check(t, p)
			check(t, spanned(text, api.BaseAuto, 500, 2, 4))
		})
	}
}

// check compares all functions with the chapter, for all carets, and points and selections of many kinds.
func check(t *testing.T, p api.Paragraph) {
	t.Helper()
	c := newChapter(t, p)
	points := checkLines(t, c)
	for o := -1; o <= len(p.Text)+1; o++ {
		_, _, c.found[on(o)] = Find(p, c.l, on(o))
		_, _, c.found[after(o)] = Find(p, c.l, after(o))
	}
	for _, q := range points {
		got := At(p, c.l, q)
		if want := c.at(q); got != want {
			t.Fatalf("P10.3: %x, spans %v, base %d, width %d: At of %v is %v, want %v", p.Text, p.Spans, p.Base, p.Width, q, got, want)
		}
		c.mustFind(t, got)
	}
	for o := -1; o <= len(p.Text)+1; o++ {
		checkCaret(t, c, on(o), points)
		checkCaret(t, c, after(o), points)
		for to := -1; to <= len(p.Text)+1; to++ {
			if got, want := Selection(p, c.l, o, to), c.selection(o, to); !slices.Equal(got, want) {
				t.Fatalf("P10.6: %x, spans %v, base %d, width %d: the selection from %d to %d is %v, want %v", p.Text, p.Spans, p.Base, p.Width, o, to, got, want)
			}
		}
	}
}

// checkLines compares the cells of all lines. It returns points at their edges, in their middles and outside.
func checkLines(t *testing.T, c chapter) []api.Point {
	t.Helper()
	var points []api.Point
	for i, line := range c.l {
		cells := Cells(c.p, line)
		if want := c.cells[i]; !slices.Equal(cells, want) {
			t.Fatalf("P10.1: %x, spans %v, base %d, width %d: the cells of line %d are %v, want %v", c.p.Text, c.p.Spans, c.p.Base, c.p.Width, i, cells, want)
		}
		checkCover(t, c, i, cells)
		xs := []int{line.X - 1, line.X, line.X + line.Width}
		for _, cell := range cells {
			xs = append(xs, cell.Left, (cell.Left+cell.Right)/2, (cell.Left+cell.Right+1)/2, cell.Right-1)
		}
		slices.Sort(xs)
		for _, x := range slices.Compact(xs) {
			points = append(points, api.Point{X: x, Y: line.Y})
		}
		points = append(points, api.Point{X: line.X, Y: line.Y - 1}, api.Point{X: line.X + line.Width, Y: line.Y + line.Height})
	}
	return points
}

// checkCover checks P10.7 for the cells of the line i, and that they stand in visual order.
func checkCover(t *testing.T, c chapter, i int, cells []api.Cell) {
	t.Helper()
	line := c.l[i]
	sum, x := 0, line.X
	for k, cell := range cells {
		// The part of a newline is at the end of the line, which is on the left if the line runs from right to left.
		if k > 0 && cell.Left != x || cell.Left < x || cell.Right < cell.Left {
			t.Fatalf("P10.7: %x, spans %v, base %d: the cells of line %d are %v", c.p.Text, c.p.Spans, c.p.Base, i, cells)
		}
		sum += cell.Right - cell.Left
		x = cell.Right
	}
	for _, g := range line.Glyphs {
		if g.To-g.From == 2 && c.newline(g.To-1) && !c.newline(g.From) {
			sum += g.Advance - fixed.Floor(g.Advance, 2)
		}
	}
	if sum != line.Width {
		t.Fatalf("P10.7: %x, spans %v, base %d: the cells %v of line %d have the width %d, want %d", c.p.Text, c.p.Spans, c.p.Base, cells, i, sum, line.Width)
	}
}

// checkCaret compares what becomes of the caret k.
func checkCaret(t *testing.T, c chapter, k api.Caret, points []api.Point) {
	t.Helper()
	line, x, ok := Find(c.p, c.l, k)
	want, found := c.find(k)
	if line != want.line || x != want.x || ok != found {
		t.Fatalf("P10.2: %x, spans %v, base %d, width %d: Find of %v is %d, %d, %t, want %v, %t", c.p.Text, c.p.Spans, c.p.Base, c.p.Width, k, line, x, ok, want, found)
	}
	for _, m := range []struct {
		name      string
		got, want api.Caret
	}{
		{"P10.4: Left", Left(c.p, c.l, k), c.sideways(k, false)},
		{"P10.4: Right", Right(c.p, c.l, k), c.sideways(k, true)},
		{"P10.5: Home", Home(c.p, c.l, k), c.home(k)},
		{"P10.5: End", End(c.p, c.l, k), c.last(k)},
	} {
		if m.got != m.want {
			t.Fatalf("%s: %x, spans %v, base %d, width %d: from %v to %v, want %v", m.name, c.p.Text, c.p.Spans, c.p.Base, c.p.Width, k, m.got, m.want)
		}
		if ok {
			c.mustFind(t, m.got)
		}
	}
	for _, q := range points[:1+len(points)/3] {
		up, down := Up(c.p, c.l, k, q.X), Down(c.p, c.l, k, q.X)
		if up != c.vertical(k, q.X, -1) || down != c.vertical(k, q.X, 1) {
			t.Fatalf("P10.5: %x, spans %v, base %d, width %d: Up and Down of %v at %d are %v and %v, want %v and %v", c.p.Text, c.p.Spans, c.p.Base, c.p.Width, k, q.X, up, down, c.vertical(k, q.X, -1), c.vertical(k, q.X, 1))
		}
	}
}

// mustFind checks that a caret that was returned has a place.
func (c chapter) mustFind(t *testing.T, k api.Caret) {
	t.Helper()
	if !c.found[k] {
		t.Fatalf("P10.7: %x, spans %v, base %d, width %d: the caret %v is not found", c.p.Text, c.p.Spans, c.p.Base, c.p.Width, k)
	}
}

// TestVisits checks that the caret visits each cell of a line once in visual order, in both directions (G9).
func TestVisits(t *testing.T) {
	t.Parallel()
	everyText([]rune{'1', bet, acute, forced, 'f', 'i'}, 5, func(text []rune) {
		p := plain(text, int(text[0])%3-1, 1000)
		l := linesOf(t, p)
		cells := Cells(p, l[0])
		right, left := At(p, l, api.Point{X: -1}), At(p, l, api.Point{X: 2000})
		for i := range cells {
			right, left = Right(p, l, right), Left(p, l, left)
			if want := end(cells[i], true); right != want {
				t.Fatalf("P10.4: %x: after %d steps to the right the caret is %v, want %v", text, i+1, right, want)
			}
			if want := end(cells[len(cells)-1-i], false); left != want {
				t.Fatalf("P10.4: %x: after %d steps to the left the caret is %v, want %v", text, i+1, left, want)
			}
		}
		if Right(p, l, right) != right || Left(p, l, left) != left {
			t.Fatalf("P10.4: %x: the caret leaves the only line", text)
		}
	})
}
