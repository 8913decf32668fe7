package paragraph

import (
	"slices"

	"widgetry/api"
	"widgetry/bidi"
	"widgetry/char"
	"widgetry/linebreak"
	"widgetry/segment"
)

// text is a valid paragraph, with what is determined once for all lines.
type text struct {
	api.Paragraph
	fonts    []api.Font
	spanOf   []int  // the index of the span of each rune
	clusters []int  // the boundaries of the clusters
	divided  []bool // for each position whether it is one of them
	stops    []int  // the positions at which a line may or must end
	sections []section
	measures []measure // of each rune
}

// section is a part of the text that has levels of its own: the runes from to to-1.
type section struct {
	from, to int
	base     int
	levels   []int
}

func newText(p api.Paragraph, fonts []api.Font) *text {
	t := &text{Paragraph: p, fonts: fonts, clusters: segment.Clusters(p.Text), divided: make([]bool, len(p.Text)+1)}
	for i, s := range p.Spans {
		t.spanOf = append(t.spanOf, slices.Repeat([]int{i}, s.To-s.From)...)
	}
	for _, at := range t.clusters {
		t.divided[at] = true
	}
	t.divide()
	for at := range p.Text {
		t.measures = append(t.measures, t.measure(at))
	}
	return t
}

// divide finds the positions at which lines can end, and the sections.
func (t *text) divide() {
	from := 0
	for i, kind := range linebreak.Breaks(t.Text) {
		if kind == api.Prohibited {
			continue
		}
		to := i + 1
		t.stops = append(t.stops, to)
		if kind == api.Mandatory {
			t.sections = append(t.sections, t.section(from, to))
			from = to
		}
	}
	if len(t.Text) == 0 || endsLine(t.Text[len(t.Text)-1]) {
		t.sections = append(t.sections, t.section(from, from))
	}
}

func (t *text) section(from, to int) section {
	runes := t.Text[from:to]
	return section{from: from, to: to, base: bidi.Base(runes, t.Base), levels: bidi.Levels(runes, t.Base)}
}

// stopsIn returns the positions of s after from at which a line may or must end.
func (t *text) stopsIn(s section, from int) []int {
	return between(t.stops, from+1, s.to)
}

// span returns the span of the rune at.
func (t *text) span(at int) api.Span {
	return t.Spans[t.spanOf[at]]
}

// between returns the elements of the ascending list l that are from low to high.
func between(l []int, low, high int) []int {
	first, _ := slices.BinarySearch(l, low)
	end, _ := slices.BinarySearch(l, high+1)
	return l[first:end]
}

// endsLine reports whether a line must end after r.
func endsLine(r rune) bool {
	switch char.Line(r) {
	case api.LineBK, api.LineCR, api.LineLF:
		return true
	}
	return false
}
