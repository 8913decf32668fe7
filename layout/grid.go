package layout

import (
	"slices"

	"widgetry/api"
	"widgetry/grid"
	"widgetry/view"
)

const mostFraction = 1000 // the greatest N of a column with a fraction

// table is what an element demands as a grid.
type table struct {
	gap     int
	columns []api.Track
	areas   []api.Area   // of the children
	items   []api.Extent // the same with their widths
}

func (e *element) table() table {
	t := table{gap: e.style[api.PropGap], columns: columns(e.Node)}
	spans := make([]int, len(e.children))
	for i, kid := range e.children {
		spans[i] = view.Number(kid.Attrs, "span", 1)
	}
	t.areas = grid.Place(len(t.columns), spans)
	for i, a := range t.areas {
		kid := e.children[i]
		t.items = append(t.items, api.Extent{At: a.Col, Span: a.Span, Min: kid.width(least), Max: kid.width(most)})
	}
	return t
}

// columns returns the columns that n describes, or otherwise one that takes all of the space.
func columns(n api.Node) []api.Track {
	v, _ := view.Attr(n.Attrs, "columns")
	l := ints(v)
	if !within(len(l), 1, api.MaxTracks) || slices.ContainsFunc(l, isNoColumn) {
		return []api.Track{{Kind: api.TrackFraction, N: 1}}
	}
	tracks := make([]api.Track, len(l))
	for i, x := range l {
		tracks[i] = track(x)
	}
	return tracks
}

func isNoColumn(n int) bool {
	return !within(n, -mostFraction, api.MaxLength)
}

func track(n int) api.Track {
	switch {
	case n > 0:
		return api.Track{Kind: api.TrackFixed, N: n}
	case n < 0:
		return api.Track{Kind: api.TrackFraction, N: -n}
	}
	return api.Track{Kind: api.TrackAuto}
}

func (t table) width(need int) int {
	if need == least {
		return grid.Least(t.gap, t.columns, t.items)
	}
	return grid.Most(t.gap, t.columns, t.items)
}

func (e *element) gridRects(iw int) []api.Rect {
	t := e.table()
	// There is no error: the columns are valid, the areas lie within them, and all other numbers are extents.
	sizes, _ := grid.Tracks(iw, t.gap, t.columns, t.items)
	starts := grid.Starts(t.gap, sizes)
	l := make([]api.Rect, len(t.areas))
	for i, a := range t.areas {
		last := a.Col + a.Span - 1
		w := starts[last] + sizes[last] - starts[a.Col]
		l[i] = api.Rect{X: e.fromStart(starts[a.Col], iw, w), W: w}
	}
	e.setRows(t, l)
	return l
}

// setRows gives the rectangles of the children the places and heights of their rows, which are as high as the children need for the widths.
func (e *element) setRows(t table, l []api.Rect) {
	var rows []int
	for i, a := range t.areas {
		if a.Row == len(rows) {
			rows = append(rows, 0)
		}
		rows[a.Row] = max(rows[a.Row], e.children[i].height(l[i].W))
	}
	starts := grid.Starts(t.gap, rows)
	for i, a := range t.areas {
		l[i].Y, l[i].H = starts[a.Row], rows[a.Row]
	}
}

// fromStart returns X of a child of the width w that begins at the distance x from the side where e begins.
func (e *element) fromStart(x, iw, w int) int {
	if e.isReversed() {
		return iw - x - w
	}
	return x
}
