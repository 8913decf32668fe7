package paragraph

import (
	"math"
	"slices"
	"testing"

	"widgetry/api"
)

// checkValidate compares the error of Validate, and what the other functions make of it.
func checkValidate(t *testing.T, name string, p api.Paragraph, fonts []api.Font, want api.Errno) {
	t.Helper()
	if got := Validate(p, fonts); got != want {
		t.Errorf("P9.1: %s: Validate = %d, want %d", name, got, want)
	}
	l, e := Lines(p, fonts)
	if e != want || (len(l) == 0) != (want != api.OK) {
		t.Errorf("P9.5: %s: %d lines, error %d, want error %d", name, len(l), e, want)
	}
	if want != api.OK && (Least(p, fonts) != 0 || Most(p, fonts) != 0) {
		t.Errorf("P9.6: %s: Least and Most are %d and %d", name, Least(p, fonts), Most(p, fonts))
	}
}

func TestValid(t *testing.T) {
	p := plain([]rune("abc"), api.BaseAuto, 0)
	checkValidate(t, "a text", p, fonts(), api.OK)
	checkValidate(t, "no text", plain(nil, api.BaseRight, api.MaxLength), fonts(), api.OK)
	checkValidate(t, "one font", p, fonts()[:1], api.OK)
	p.Align = api.AlignCenter
	p.Spans = spansOf([][4]int{{0, 1, 0, 1}, {1, 2, 1, 1000}, {2, 3, 1, 1}})
	checkValidate(t, "three spans", p, fonts(), api.OK)
	checkValidate(t, "8 fonts", p, slices.Repeat(fonts(), 4), api.OK)
	p.Spans[1].Font = 7
	checkValidate(t, "the eighth font", p, slices.Repeat(fonts(), 4), api.OK)
	p.Text = []rune{-1, 0x110000, math.MaxInt32}
	checkValidate(t, "numbers that are no runes", p, slices.Repeat(fonts(), 4), api.OK)
	checkValidate(t, "100 spans", spans(100), fonts(), api.OK)
	long := slices.Repeat([]rune{'a'}, 2000)
	checkValidate(t, "2000 runes", plain(long, api.BaseLeft, 1), fonts(), api.OK)
}

// spans returns a paragraph of n runes and n spans.
func spans(n int) api.Paragraph {
	var p api.Paragraph
	for i := range n {
		p.Text = append(p.Text, 'a')
		p.Spans = append(p.Spans, api.Span{From: i, To: i + 1, Size: 10})
	}
	return p
}

func TestTooLong(t *testing.T) {
	long := slices.Repeat([]rune{'a'}, 2001)
	checkValidate(t, "2001 runes", plain(long, api.BaseLeft, 0), fonts(), api.ErrTooLong)
	checkValidate(t, "101 spans", spans(101), fonts(), api.ErrTooLong)
	checkValidate(t, "9 fonts", plain([]rune("a"), api.BaseLeft, 0), slices.Repeat(fonts()[:1], 9), api.ErrTooLong)
}

func TestOutOfRange(t *testing.T) {
	for _, x := range []struct {
		name   string
		change func(p *api.Paragraph)
	}{
		{"Base -2", func(p *api.Paragraph) { p.Base = -2 }},
		{"Base 2", func(p *api.Paragraph) { p.Base = 2 }},
		{"the least Base", func(p *api.Paragraph) { p.Base = math.MinInt }},
		{"Align -1", func(p *api.Paragraph) { p.Align = -1 }},
		{"Align 3", func(p *api.Paragraph) { p.Align = 3 }},
		{"Width -1", func(p *api.Paragraph) { p.Width = -1 }},
		{"Width MaxLength + 1", func(p *api.Paragraph) { p.Width = api.MaxLength + 1 }},
		{"the greatest Width", func(p *api.Paragraph) { p.Width = math.MaxInt }},
		{"Font -1", func(p *api.Paragraph) { p.Spans[0].Font = -1 }},
		{"Font 2", func(p *api.Paragraph) { p.Spans[0].Font = 2 }},
		{"Font 2 in the last span", func(p *api.Paragraph) { p.Spans[2].Font = 2 }},
		{"Size 0", func(p *api.Paragraph) { p.Spans[0].Size = 0 }},
		{"Size 0 in the last span", func(p *api.Paragraph) { p.Spans[2].Size = 0 }},
		{"Size 1001", func(p *api.Paragraph) { p.Spans[1].Size = 1001 }},
	} {
		p := spans(3)
		checkValidate(t, x.name+" is not there", p, fonts(), api.OK)
		x.change(&p)
		checkValidate(t, x.name, p, fonts(), api.ErrRange)
	}
	checkValidate(t, "no fonts", spans(1), nil, api.ErrRange)
	checkValidate(t, "no fonts and no text", plain(nil, api.BaseLeft, 0), nil, api.ErrRange)
	checkValidate(t, "no text and Base 2", plain(nil, 2, 0), fonts(), api.ErrRange)
	checkValidate(t, "no text and Width -1", plain(nil, api.BaseLeft, -1), fonts(), api.ErrRange)
	checkValidate(t, "no text and Font 2", api.Paragraph{Spans: spansOf([][4]int{{0, 0, 2, 9}})}, fonts(), api.ErrRange)
	checkValidate(t, "no text and Size 0", api.Paragraph{Spans: spansOf([][4]int{{0, 0, 0, 0}})}, fonts(), api.ErrRange)
}

func TestNotCovered(t *testing.T) {
	for _, x := range []struct {
		name  string
		text  string
		spans [][4]int
	}{
		{"no spans", "abc", nil},
		{"no spans of no text", "", nil},
		{"two spans of no text", "", [][4]int{{0, 0, 0, 9}, {0, 0, 0, 9}}},
		{"a span beyond no text", "", [][4]int{{0, 1, 0, 9}}},
		{"a span beside no text", "", [][4]int{{1, 1, 0, 9}}},
		{"a span before no text", "", [][4]int{{-1, 0, 0, 9}}},
		{"the beginning is missing", "abc", [][4]int{{1, 3, 0, 9}}},
		{"the end is missing", "abc", [][4]int{{0, 2, 0, 9}}},
		{"beyond the text", "abc", [][4]int{{0, 4, 0, 9}}},
		{"before the text", "abc", [][4]int{{-1, 3, 0, 9}}},
		{"a gap", "abc", [][4]int{{0, 1, 0, 9}, {2, 3, 0, 9}}},
		{"an overlap", "abc", [][4]int{{0, 2, 0, 9}, {1, 3, 0, 9}}},
		{"in another order", "abc", [][4]int{{1, 3, 0, 9}, {0, 1, 0, 9}}},
		{"an empty span at the beginning", "abc", [][4]int{{0, 0, 0, 9}, {0, 3, 0, 9}}},
		{"an empty span in the middle", "abc", [][4]int{{0, 1, 0, 9}, {1, 1, 0, 9}, {1, 3, 0, 9}}},
		{"an empty span at the end", "abc", [][4]int{{0, 3, 0, 9}, {3, 3, 0, 9}}},
		{"a span that goes back", "abc", [][4]int{{0, 2, 0, 9}, {2, 1, 0, 9}, {1, 3, 0, 9}}},
		{"beyond the text and back", "abc", [][4]int{{0, 5, 0, 9}, {5, 3, 0, 9}}},
		{"the greatest numbers", "abc", [][4]int{{0, math.MaxInt, 0, 9}, {math.MaxInt, math.MinInt, 0, 9}}},
	} {
		checkValidate(t, x.name, api.Paragraph{Text: []rune(x.text), Spans: spansOf(x.spans)}, fonts(), api.ErrOrder)
	}
	checkValidate(t, "no spans and no fonts", api.Paragraph{Text: []rune("a")}, nil, api.ErrOrder)
}

// TestFontErrors examines fonts that are not valid, whether they are used or not.
func TestFontErrors(t *testing.T) {
	long, small, order := sample(), sample(), sample()
	long.Kerns = make([]api.Kern, 101)
	small.Units = 15
	order.Advances[1].From = ' '
	for _, x := range []struct {
		name  string
		fonts []api.Font
		want  api.Errno
	}{
		{"a font that is too long", []api.Font{long}, api.ErrTooLong},
		{"a font out of range", []api.Font{small}, api.ErrRange},
		{"a font in the wrong order", []api.Font{order}, api.ErrOrder},
		{"the zero font", []api.Font{{}}, api.ErrRange},
		{"a font that is not used", []api.Font{sample(), sample(), long}, api.ErrTooLong},
		{"the first of two", []api.Font{sample(), order, long}, api.ErrOrder},
	} {
		checkValidate(t, x.name, plain([]rune("a"), api.BaseLeft, 0), x.fonts, x.want)
		checkValidate(t, x.name+" and no text", plain(nil, api.BaseLeft, 0), x.fonts, x.want)
	}
}

func TestOrderOfErrors(t *testing.T) {
	invalid := sample()
	invalid.Units = 0
	invalid.Kerns = make([]api.Kern, 101)
	refused := []api.Font{invalid}
	p := api.Paragraph{Text: make([]rune, 2001), Spans: spansOf([][4]int{{0, 5, 0, 0}})}
	checkValidate(t, "a long text comes first", p, fonts(), api.ErrTooLong)
	p = spans(101)
	p.Width = -1
	checkValidate(t, "many spans come first", p, fonts(), api.ErrTooLong)
	p = spans(2)
	p.Base = 5
	checkValidate(t, "many fonts come first", p, slices.Repeat(fonts()[:1], 9), api.ErrTooLong)
	checkValidate(t, "a number comes before a font", p, refused, api.ErrRange)
	p.Spans[0].To = 7
	checkValidate(t, "a number comes before the order", p, fonts(), api.ErrRange)
	p.Base = 0
	checkValidate(t, "a font comes before the order", p, refused, api.ErrTooLong)
	p.Spans[1].Font = 1
	checkValidate(t, "the number of a font comes before the font", p, refused, api.ErrRange)
	p.Spans[1].Font, p.Spans[1].Size = 0, 1001
	checkValidate(t, "a size comes before a font", p, refused, api.ErrRange)
	checkValidate(t, "the order comes last", api.Paragraph{Text: []rune("a")}, fonts(), api.ErrOrder)
}
