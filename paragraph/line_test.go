package paragraph

import (
	"slices"
	"testing"

	"widgetry/api"
)

// place is where a glyph stands, and what it is.
type place struct{ id, from, x, advance int }

func placesOf(line api.Line) []place {
	var found []place
	for _, g := range line.Glyphs {
		found = append(found, place{g.ID, g.From, g.X, g.Advance})
	}
	return found
}

// beginnings returns the first runes of the glyphs of each line, from left to right.
func beginnings(l []api.Line) [][]int {
	var found [][]int
	for _, line := range l {
		var from []int
		for _, g := range line.Glyphs {
			from = append(from, g.From)
		}
		found = append(found, from)
	}
	return found
}

func sameLists(a, b [][]int) bool {
	return slices.EqualFunc(a, b, func(x, y []int) bool { return slices.Equal(x, y) })
}

func TestVisualOrder(t *testing.T) {
	tests := []struct {
		name  string
		text  []rune
		base  int
		width int
		want  [][]int
	}{
		{"no text", nil, api.BaseAuto, 0, [][]int{nil}},
		{"from left to right", []rune("ab c"), api.BaseAuto, 1000, [][]int{{0, 1, 2, 3}}},
		{"from right to left", []rune{alef, bet, ' ', gimel}, api.BaseAuto, 1000, [][]int{{3, 2, 1, 0}}},
		{"both", []rune{'a', ' ', alef, bet, ' ', gimel, ' ', 'b'}, api.BaseAuto, 1000, [][]int{{0, 1, 5, 4, 3, 2, 6, 7}}},
		{"both, from right to left", []rune{alef, ' ', 'a', 'b', ' ', 'c', ' ', bet}, api.BaseAuto, 1000, [][]int{{7, 6, 2, 3, 4, 5, 1, 0}}},
		{"numbers in between", []rune{alef, '1', '2', bet}, api.BaseLeft, 1000, [][]int{{3, 1, 2, 0}}},
		{"both in each of two lines", []rune{'a', alef, bet, ' ', gimel, dalet, 'b'}, api.BaseLeft, 150, [][]int{{0, 2, 1, 3}, {5, 4, 6}}},
		{"white space at the end of a line has the base level", []rune{alef, bet, ' ', ' ', gimel}, api.BaseLeft, 100, [][]int{{1, 0, 2, 3}, {4}}},
		{"white space within a line has not", []rune{alef, bet, ' ', ' ', gimel}, api.BaseLeft, 1000, [][]int{{4, 3, 2, 1, 0}}},
		{"white space at the end, from right to left", []rune{'a', 'b', ' ', 'c'}, api.BaseRight, 100, [][]int{{2, 0, 1}, {3}}},
		{"white space before a line feed", []rune{alef, ' ', '\n', bet}, api.BaseLeft, 50, [][]int{{0, 1}, {3}}},
		{"each section has its own base", []rune{'a', alef, '\n', alef, 'b', '\n'}, api.BaseAuto, 1000, [][]int{{0, 1, 2}, {5, 4, 3}, nil}},
		{"levels do not cross sections", []rune{0x202E, 'a', 'b', '\n', 'a', 'b'}, api.BaseLeft, 1000, [][]int{{0, 2, 1, 3}, {4, 5}}},
		{"levels cross the lines of a section", []rune{0x202E, 'a', 'b', ' ', 'a', 'b'}, api.BaseLeft, 100, [][]int{{0, 2, 1, 3}, {5, 4}}},
		{"a cluster keeps its order", []rune{alef, acute, bet}, api.BaseAuto, 1000, [][]int{{2, 0, 1}}},
		{"a joiner at the end stays with its cluster", []rune{bet, alef, 0x200D}, api.BaseLeft, 1000, [][]int{{1, 2, 0}}},
		{"a joiner at the end of a line stays with its cluster", []rune{kanji, alef, 0x200D, kanji, alef}, api.BaseRight, 150, [][]int{{3, 1, 2, 0}, {4}}},
		{"a cluster has the level of its first rune", []rune{0x600, alef, bet}, api.BaseLeft, 1000, [][]int{{2, 0, 1}}},
		{"all runes of a cluster have it", []rune{0x600, 0x600, alef, acute, bet}, api.BaseLeft, 1000, [][]int{{4, 0, 1, 2, 3}}},
	}
	for _, x := range tests {
		if got := beginnings(linesOf(t, plain(x.text, x.base, x.width))); !sameLists(got, x.want) {
			t.Errorf("P9.3: %s: the glyphs of %x begin at %v, want %v", x.name, x.text, got, x.want)
		}
	}
}

func TestVisualOrderOfSpans(t *testing.T) {
	tests := []struct {
		name string
		text []rune
		base int
		ends []int
		want [][]int
	}{
		{"from left to right", []rune("abcd"), api.BaseLeft, []int{1, 3, 4}, [][]int{{0, 1, 2, 3}}},
		{"from right to left", []rune{alef, bet, gimel, dalet}, api.BaseRight, []int{1, 3, 4}, [][]int{{3, 2, 1, 0}}},
		{"both", []rune{'a', alef, bet, gimel, 'b'}, api.BaseLeft, []int{2, 5}, [][]int{{0, 3, 2, 1, 4}}},
		{"a cluster that is cut", []rune{alef, acute, bet}, api.BaseRight, []int{1, 3}, [][]int{{2, 1, 0}}},
		{"a cluster that is cut, from left to right", []rune{'a', acute, 'b'}, api.BaseLeft, []int{1, 3}, [][]int{{0, 1, 2}}},
		{"a number that is cut", []rune{alef, '1', '2', '3', bet}, api.BaseRight, []int{2, 5}, [][]int{{4, 1, 2, 3, 0}}},
		{"runs of one span on both sides", []rune{alef, 'a', 'b', bet}, api.BaseRight, []int{4}, [][]int{{3, 1, 2, 0}}},
	}
	for _, x := range tests {
		if got := beginnings(linesOf(t, spanned(x.text, x.base, 1000, x.ends...))); !sameLists(got, x.want) {
			t.Errorf("P9.3: %s: the glyphs of %x begin at %v, want %v", x.name, x.text, got, x.want)
		}
	}
}

// TestGlyphs examines which runes are shaped together, and how.
func TestGlyphs(t *testing.T) {
	tests := []struct {
		name  string
		text  []rune
		base  int
		spans [][4]int
		want  []place
	}{
		{"kerns and ligatures", []rune("AVfi"), api.BaseLeft, [][4]int{{0, 4, 0, 100}}, []place{{'A', 0, 0, 42}, {'V', 1, 42, 50}, {0x110000, 2, 92, 3}}},
		{"not across spans", []rune("AVfi"), api.BaseLeft, [][4]int{{0, 1, 0, 100}, {1, 3, 1, 100}, {3, 4, 0, 100}}, []place{{'A', 0, 0, 50}, {'V', 1, 50, 10}, {'f', 2, 60, 10}, {'i', 3, 70, 50}}},
		{"not across spans of the same font", []rune("AVfi"), api.BaseLeft, [][4]int{{0, 1, 0, 100}, {1, 3, 0, 100}, {3, 4, 0, 100}}, []place{{'A', 0, 0, 50}, {'V', 1, 50, 50}, {'f', 2, 100, 50}, {'i', 3, 150, 50}}},
		{"not across levels", []rune{'V', 0x200F, ' '}, api.BaseRight, [][4]int{{0, 3, 0, 100}}, []place{{' ', 2, 0, 25}, {0x200F, 1, 25, 0}, {'V', 0, 25, 50}}},
		{"brackets are mirrored from right to left", []rune{'(', alef, ')'}, api.BaseRight, [][4]int{{0, 3, 0, 100}}, []place{{'(', 2, 0, 50}, {alefID, 1, 50, 50}, {')', 0, 100, 50}}},
		{"but not at an even level", []rune{alef, '[', 'a', 'b', ']', bet}, api.BaseRight, [][4]int{{0, 6, 0, 100}}, []place{{betID, 5, 0, 50}, {'[', 4, 50, 50}, {'a', 2, 100, 50}, {'b', 3, 150, 50}, {']', 1, 200, 50}, {alefID, 0, 250, 50}}},
		{"not at level 2", []rune{0x202A, '(', 'a', ')'}, api.BaseRight, [][4]int{{0, 4, 0, 100}}, []place{{'(', 1, 0, 50}, {'a', 2, 50, 50}, {')', 3, 100, 50}, {0x202A, 0, 150, 0}}},
		{"the white space at the end is a run of its own", []rune{'V', ' '}, api.BaseRight, [][4]int{{0, 2, 0, 100}}, []place{{' ', 1, 0, 25}, {'V', 0, 25, 50}}},
		{"and has no kern", []rune{'V', ' '}, api.BaseLeft, [][4]int{{0, 2, 0, 100}}, []place{{'V', 0, 0, 80}, {' ', 1, 80, 25}}},
	}
	for _, x := range tests {
		p := api.Paragraph{Text: x.text, Spans: spansOf(x.spans), Base: x.base}
		p.Width = Most(p, fonts())
		l := linesOf(t, p)
		start := l[0].X
		for i := range x.want {
			x.want[i].x += start
		}
		if got := placesOf(l[0]); len(l) != 1 || !slices.Equal(got, x.want) {
			t.Errorf("P9.3: %s: the glyphs of %x are %v, want %v", x.name, x.text, got, x.want)
		}
	}
}

// TestGlyphFields examines the fields of glyphs that follow from their spans and from the text.
func TestGlyphFields(t *testing.T) {
	p := api.Paragraph{Text: []rune{'a', 0x628, 0x628, 0x628}, Spans: spansOf([][4]int{{0, 1, 1, 1000}, {1, 3, 0, 200}, {3, 4, 1, 1}}), Base: api.BaseLeft, Width: 600}
	want := [][]api.Glyph{
		{{ID: 'a', From: 0, To: 1, X: 0, Advance: 100, Font: 1, Size: 1000}, {ID: 0x628, Form: api.FormFinal, From: 3, To: 4, X: 100, Advance: 0, Font: 1, Size: 1}, {ID: 0x628, Form: api.FormMedial, From: 2, To: 3, X: 100, Advance: 100, Size: 200}, {ID: 0x628, Form: api.FormInitial, From: 1, To: 2, X: 200, Advance: 100, Size: 200}},
	}
	l := linesOf(t, p)
	if len(l) != 1 || !slices.Equal(l[0].Glyphs, want[0]) {
		t.Errorf("P9.3: the glyphs are %v, want %v", l, want)
	}
	// The letters keep their forms where a line ends between them.
	p.Width = 100
	want = [][]api.Glyph{
		{{ID: 'a', From: 0, To: 1, X: 0, Advance: 100, Font: 1, Size: 1000}},
		{{ID: 0x628, Form: api.FormInitial, From: 1, To: 2, X: 0, Advance: 100, Size: 200}},
		{{ID: 0x628, Form: api.FormFinal, From: 3, To: 4, X: 0, Advance: 0, Font: 1, Size: 1}, {ID: 0x628, Form: api.FormMedial, From: 2, To: 3, X: 0, Advance: 100, Size: 200}},
	}
	l = linesOf(t, p)
	for i := range want {
		if len(l) != 3 || !slices.Equal(l[i].Glyphs, want[i]) {
			t.Fatalf("P9.3: the lines are %v, want the glyphs %v", l, want)
		}
	}
}

const (
	alefID = int(alef)
	betID  = int(bet)
)

func TestAlignment(t *testing.T) {
	tests := []struct{ align, base, width, x int }{
		{api.AlignStart, api.BaseLeft, 200, 0}, {api.AlignStart, api.BaseRight, 200, 75},
		{api.AlignEnd, api.BaseLeft, 200, 75}, {api.AlignEnd, api.BaseRight, 200, 0},
		{api.AlignCenter, api.BaseLeft, 200, 37}, {api.AlignCenter, api.BaseRight, 200, 37},
		{api.AlignCenter, api.BaseLeft, 201, 38}, {api.AlignEnd, api.BaseLeft, api.MaxLength, api.MaxLength - 125},
		// The white space at the end of the text counts here, so that the line can be too wide.
		{api.AlignStart, api.BaseLeft, 100, 0}, {api.AlignStart, api.BaseRight, 100, -25},
		{api.AlignEnd, api.BaseLeft, 100, -25}, {api.AlignEnd, api.BaseRight, 100, 0},
		{api.AlignCenter, api.BaseLeft, 100, -13}, {api.AlignCenter, api.BaseRight, 101, -12},
	}
	for _, x := range tests {
		p := plain([]rune("ab "), x.base, x.width)
		p.Align = x.align
		l := linesOf(t, p)
		if len(l) != 1 || l[0].Width != 125 || l[0].X != x.x {
			t.Fatalf("P9.5: align %d, base %d, width %d: the lines are %v, want X %d", x.align, x.base, x.width, l, x.x)
		}
		// The space is on the left if the base is from right to left.
		want := []place{{'a', 0, x.x, 50}, {'b', 1, x.x + 50, 50}, {' ', 2, x.x + 100, 25}}
		if x.base == api.BaseRight {
			want = []place{{' ', 2, x.x, 25}, {'a', 0, x.x + 25, 50}, {'b', 1, x.x + 75, 50}}
		}
		if got := placesOf(l[0]); !slices.Equal(got, want) {
			t.Errorf("P9.5: align %d, base %d, width %d: the glyphs are %v, want %v", x.align, x.base, x.width, got, want)
		}
	}
}

// TestAlignmentOfLines examines that each line is aligned by its own width and its own level.
func TestAlignmentOfLines(t *testing.T) {
	text := []rune{'a', 'b', ' ', 'c', '\n', alef, ' ', 'b', '\n'}
	for _, x := range []struct {
		align int
		want  []int
	}{
		{api.AlignStart, []int{0, 0, 60, 60, 0}}, {api.AlignEnd, []int{10, 60, 0, 0, 110}}, {api.AlignCenter, []int{5, 30, 30, 30, 55}},
	} {
		p := plain(text, api.BaseAuto, 110)
		p.Align = x.align
		var got []int
		for _, line := range linesOf(t, p) {
			got = append(got, line.X)
		}
		if !slices.Equal(got, x.want) {
			t.Errorf("P9.5: align %d: the lines begin at %v, want %v", x.align, got, x.want)
		}
	}
	// A line without runes has its place too.
	for _, x := range []struct{ align, base, x int }{
		{api.AlignStart, api.BaseAuto, 0}, {api.AlignEnd, api.BaseAuto, 77}, {api.AlignCenter, api.BaseAuto, 38}, {api.AlignStart, api.BaseRight, 77},
	} {
		p := plain(nil, x.base, 77)
		p.Align = x.align
		if l := linesOf(t, p); len(l) != 1 || l[0].X != x.x || l[0].Width != 0 || len(l[0].Glyphs) != 0 {
			t.Errorf("P9.5: align %d, base %d: the lines of no text are %v, want X %d", x.align, x.base, l, x.x)
		}
	}
}

// metrics are the extents of a line from top to bottom.
type metrics struct{ y, ascent, descent, height int }

func metricsOf(l []api.Line) []metrics {
	var found []metrics
	for _, line := range l {
		found = append(found, metrics{line.Y, line.Ascent, line.Descent, line.Height})
	}
	return found
}

func TestLineHeights(t *testing.T) {
	first, second := metrics{0, 80, 20, 110}, metrics{0, 30, 60, 90}
	both := metrics{0, 80, 60, 140}
	tests := []struct {
		name  string
		text  string
		width int
		spans [][4]int
		want  []metrics
	}{
		{"no text", "", 0, [][4]int{{0, 0, 1, 100}}, []metrics{second}},
		{"one span", "a", 100, [][4]int{{0, 1, 0, 100}}, []metrics{first}},
		{"lines below one another", "a\na\na", 100, [][4]int{{0, 5, 0, 100}}, []metrics{first, first, first}},
		{"the ascent of one span and the descent of another", "ab", 100, [][4]int{{0, 1, 0, 100}, {1, 2, 1, 100}}, []metrics{both}},
		{"in another order", "ab", 100, [][4]int{{0, 1, 1, 100}, {1, 2, 0, 100}}, []metrics{both}},
		{"the spans of a line only", "a\nb\nc", 100, [][4]int{{0, 2, 0, 100}, {2, 4, 1, 100}, {4, 5, 0, 200}}, []metrics{first, second, {0, 160, 40, 220}}},
		{"a span that ends with the line", "a b", 50, [][4]int{{0, 2, 0, 100}, {2, 3, 1, 100}}, []metrics{first, second}},
		{"a span that goes on in the next line", "a b", 50, [][4]int{{0, 1, 0, 100}, {1, 3, 1, 100}}, []metrics{both, second}},
		{"the span of a line feed", "a\n", 50, [][4]int{{0, 1, 0, 100}, {1, 2, 1, 100}}, []metrics{both, second}},
		{"three spans", "abc", 200, [][4]int{{0, 1, 1, 10}, {1, 2, 1, 100}, {2, 3, 0, 10}}, []metrics{{0, 30, 60, 90}}},
		{"the space between lines of another span", "ab", 200, [][4]int{{0, 1, 0, 200}, {1, 2, 1, 100}}, []metrics{{0, 160, 60, 220}}},
		{"the greatest height is not that of the greatest ascent", "ab", 200, [][4]int{{0, 1, 1, 300}, {1, 2, 0, 100}}, []metrics{{0, 90, 180, 270}}},
		{"the last line has no runes", "a\n", 50, [][4]int{{0, 1, 1, 100}, {1, 2, 0, 100}}, []metrics{both, first}},
	}
	for _, x := range tests {
		p := api.Paragraph{Text: []rune(x.text), Spans: spansOf(x.spans), Width: x.width}
		y := 0
		for i := range x.want {
			x.want[i].y = y
			y += x.want[i].height
		}
		l := linesOf(t, p)
		if got := metricsOf(l); !slices.Equal(got, x.want) {
			t.Errorf("P9.5: %s: the lines of %q have the extents %v, want %v", x.name, x.text, got, x.want)
		}
		if got := Height(l); got != y {
			t.Errorf("P9.6: %s: Height = %d, want %d", x.name, got, y)
		}
	}
}

// TestTinyLines examines a font that vanishes at size 1.
func TestTinyLines(t *testing.T) {
	tiny := api.Font{Units: 4096, Ascent: 1, Descent: 1, Gap: 1, Default: 1}
	p := api.Paragraph{Text: []rune("ab c"), Spans: spansOf([][4]int{{0, 4, 0, 1}})}
	l, e := Lines(p, []api.Font{tiny})
	if e != api.OK || len(l) != 1 || l[0].Ascent != 1 || l[0].Descent != 0 || l[0].Height != 1 || l[0].Width != 0 {
		t.Errorf("P9.5: the lines of a tiny font are %v, error %d", l, e)
	}
}
