package caret

import (
	"slices"

	"widgetry/api"
	"widgetry/bidi"
	"widgetry/char"
	"widgetry/linebreak"
	"widgetry/segment"
)

// text is the text of a paragraph in its lines, with what is determined once for all of them.
// One that is too long to have lines has no clusters and no levels.
type text struct {
	runes    []rune
	lines    []api.Line
	clusters []int // the boundaries of the clusters
	starts   []int // where the cluster of each rune begins
	ends     []int // and where it ends
	levels   []int // of each rune, before it belongs to a line
}

func newText(p api.Paragraph, l []api.Line) *text {
	t := &text{runes: p.Text, lines: l, clusters: segment.Clusters(p.Text)}
	from := 0
	for _, to := range t.clusters {
		t.starts = append(t.starts, slices.Repeat([]int{from}, to-from)...)
		t.ends = append(t.ends, slices.Repeat([]int{to}, to-from)...)
		from = to
	}
	from = 0
	for i, kind := range linebreak.Breaks(p.Text) {
		// Each part of the text that ends with a mandatory break has levels of its own.
		if kind == api.Mandatory {
			t.levels = append(t.levels, bidi.Levels(p.Text[from:i+1], p.Base)...)
			from = i + 1
		}
	}
	return t
}

// isStop reports whether a caret can have the offset.
func (t *text) isStop(offset int) bool {
	_, found := slices.BinarySearch(t.clusters, offset)
	return found || offset == 0
}

func newline(r rune) bool {
	switch char.Line(r) {
	case api.LineBK, api.LineCR, api.LineLF:
		return true
	}
	return false
}

func even(level int) bool {
	return level%2 == 0
}
