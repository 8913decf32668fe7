package caret

import (
	"math"
	"slices"
	"testing"

	"widgetry/api"
)

// on and after return the carets at an offset that belong to the rune after it and to the one before it.
func on(offset int) api.Caret    { return api.Caret{Offset: offset} }
func after(offset int) api.Caret { return api.Caret{Offset: offset, Before: true} }

// mixed is a line in two directions: a stands at 0, gimel at 50, bet at 100 and b at 150.
func mixed() api.Paragraph {
	return plain([]rune{'a', bet, gimel, 'b'}, api.BaseLeft, 1000)
}

// reversed is a line from right to left: 2 stands at 0, 1 at 50, gimel at 100, bet at 150.
func reversed() api.Paragraph {
	return plain([]rune{bet, gimel, '2', '1'}, api.BaseAuto, 200)
}

// broken has the lines "ab ", "cd" and "e" of the heights 100 and 130.
func broken() api.Paragraph {
	return spanned([]rune("ab cd e"), api.BaseLeft, 110, 6, 7)
}

func TestFind(t *testing.T) {
	lf := plain([]rune("a\r\nb\n"), api.BaseLeft, 200)
	only := plain([]rune{'\n', '\n'}, api.BaseRight, 200)
	marks := plain([]rune{'e', acute, visarga, 'a'}, api.BaseLeft, 200)
	right := plain([]rune{'\t', '\n', gimel, '\n', gimel, ' '}, api.BaseRight, 200)
	for _, x := range []struct {
		name    string
		p       api.Paragraph
		c       api.Caret
		line, x int
		ok      bool
	}{
		{"no text", plain(nil, api.BaseAuto, 50), on(0), 0, 0, true},
		{"no text, before", plain(nil, api.BaseAuto, 50), after(0), 0, 0, true},
		{"no text, from right to left", plain(nil, api.BaseRight, 50), on(0), 0, 50, true},
		{"no text, but an offset", plain(nil, api.BaseAuto, 50), on(1), 0, 0, false},
		{"the beginning", broken(), on(0), 0, 0, true},
		{"before the beginning", broken(), after(0), 0, 0, true},
		{"between letters", broken(), on(1), 0, 50, true},
		{"between letters, before", broken(), after(1), 0, 50, true},
		{"the beginning of a line", broken(), on(3), 1, 0, true},
		{"the end of a line", broken(), after(3), 0, 100, true},
		{"the beginning of the last line", broken(), on(6), 2, 0, true},
		{"the end of the text", broken(), on(7), 2, 10, true},
		{"the end of the text, before", broken(), after(7), 2, 10, true},
		{"beyond the text", broken(), on(8), 0, 0, false},
		{"beyond the text, before", broken(), after(8), 0, 0, false},
		{"negative", broken(), on(-1), 0, 0, false},
		{"negative, before", broken(), after(-1), 0, 0, false},
		{"far away", broken(), on(math.MaxInt), 0, 0, false},
		{"far away, before", broken(), after(math.MinInt), 0, 0, false},
		{"within a cluster", marks, on(1), 0, 0, false},
		{"within a cluster, before", marks, after(2), 0, 0, false},
		{"after a cluster", marks, after(3), 0, 100, true},
		{"within CR LF", lf, on(2), 0, 0, false},
		{"at CR LF", lf, on(1), 0, 50, true},
		{"at CR LF, before", lf, after(1), 0, 50, true},
		{"after CR LF", lf, on(3), 1, 0, true},
		{"after CR LF, before", lf, after(3), 1, 0, true},
		{"at a line feed", lf, on(4), 1, 50, true},
		{"in the last line without runes", lf, on(5), 2, 0, true},
		{"in the last line without runes, before", lf, after(5), 2, 0, true},
		{"a line feed at the beginning", only, on(0), 0, 200, true},
		{"a line feed at the beginning, before", only, after(0), 0, 200, true},
		{"between line feeds", only, on(1), 1, 200, true},
		{"between line feeds, before", only, after(1), 1, 200, true},
		{"after line feeds", only, after(2), 2, 200, true},
		{"the edge of two directions", mixed(), on(1), 0, 150, true},
		{"the edge of two directions, before", mixed(), after(1), 0, 50, true},
		{"from right to left", mixed(), on(2), 0, 100, true},
		{"from right to left, before", mixed(), after(2), 0, 100, true},
		{"the other edge", mixed(), on(3), 0, 150, true},
		{"the other edge, before", mixed(), after(3), 0, 50, true},
		{"at the end", mixed(), on(4), 0, 200, true},
		{"a line from right to left", reversed(), on(0), 0, 200, true},
		{"a number in it", reversed(), on(2), 0, 0, true},
		{"a number in it, before", reversed(), after(2), 0, 100, true},
		{"the end of it", reversed(), on(4), 0, 100, true},
		{"a line feed after a tabulator, from right to left", right, on(1), 0, 200, true},
		{"a line feed after a letter, from right to left", right, on(3), 1, 165, true},
		{"the end of the text, from right to left", right, on(6), 2, 125, true},
	} {
		line, at, ok := Find(x.p, linesOf(t, x.p), x.c)
		if line != x.line || at != x.x || ok != x.ok {
			t.Errorf("P10.2: %s: Find of %v in %x is %d, %d, %t, want %d, %d, %t", x.name, x.c, x.p.Text, line, at, ok, x.line, x.x, x.ok)
		}
	}
}

// TestStart examines the start of lines with a width, which lines without cells never have.
func TestStart(t *testing.T) {
	p := plain([]rune{'\n'}, api.BaseAuto, 100)
	for level, want := range []int{10, 15, 10, 15} {
		l := []api.Line{{To: 1, Level: level, X: 10, Width: 5}, {From: 1, To: 1, Level: level, X: 10, Width: 5}}
		for offset := range 2 {
			if line, x, ok := Find(p, l, on(offset)); line != offset || x != want || !ok {
				t.Errorf("P10.2: the start of line %d of the level %d is %d, %d, %t, want %d", offset, level, line, x, ok, want)
			}
		}
	}
}

func TestAt(t *testing.T) {
	spaces := plain([]rune("ab  c"), api.BaseLeft, 100)
	tabs := plain([]rune{'\t', 'a', '\t'}, api.BaseLeft, 100)
	small := plain([]rune("ff"), api.BaseLeft, 100)
	lf := plain([]rune{'a', ' ', '\n', '\n', gimel, '\n', bet, bet}, api.BaseAuto, 200)
	for _, x := range []struct {
		name string
		p    api.Paragraph
		x, y int
		want api.Caret
	}{
		{"no text", plain(nil, api.BaseAuto, 50), 20, 20, on(0)},
		{"above all", broken(), 50, -1, on(1)},
		{"far above", broken(), 50, math.MinInt, on(1)},
		{"the top", broken(), 50, 0, on(1)},
		{"the bottom of the first line", broken(), 70, 99, on(1)},
		{"the top of the second line", broken(), 70, 100, on(4)},
		{"the bottom of the second line", broken(), 70, 199, on(4)},
		{"the top of the last line", broken(), 70, 200, after(7)},
		{"the bottom of the last line", broken(), 70, 329, after(7)},
		{"below all", broken(), 70, 330, after(7)},
		{"far below", broken(), 70, math.MaxInt, after(7)},
		{"on the left of all", mixed(), -1, 0, on(0)},
		{"far on the left", mixed(), math.MinInt, 0, on(0)},
		{"the first pixel", mixed(), 0, 0, on(0)},
		{"the left half", mixed(), 24, 0, on(0)},
		{"the right half", mixed(), 25, 0, after(1)},
		{"the last pixel of a cell", mixed(), 49, 0, after(1)},
		{"the left half, from right to left", mixed(), 50, 0, after(3)},
		{"the last pixel of that half", mixed(), 74, 0, after(3)},
		{"the right half, from right to left", mixed(), 75, 0, on(2)},
		{"the next cell", mixed(), 100, 0, after(2)},
		{"its right half", mixed(), 149, 0, on(1)},
		{"the last cell", mixed(), 150, 0, on(3)},
		{"the last pixel", mixed(), 199, 0, after(4)},
		{"on the right of all", mixed(), 200, 0, after(4)},
		{"far on the right", mixed(), math.MaxInt, 0, after(4)},
		{"on the left, a number", reversed(), -5, 0, on(2)},
		{"on the right, from right to left", reversed(), 300, 0, on(0)},
		{"before the first cell, from right to left", lf, 164, 200, after(5)},
		{"the first cell after the part of a newline", lf, 165, 200, after(5)},
		{"on the left, from right to left", lf, 99, 300, after(8)},
		{"after the last cell before the part of a newline", lf, 65, 0, after(2)},
		{"a line without cells", lf, 70, 100, on(3)},
		{"cells without width on the left", tabs, 0, 0, on(1)},
		{"on the left of cells without width", tabs, -1, 0, on(0)},
		{"on the right of cells without width", tabs, 50, 0, after(3)},
		{"spaces without width at the end of a line", spaces, 100, 0, after(4)},
		{"before spaces without width", spaces, 99, 0, after(2)},
		{"a cell of one pixel", small, 0, 0, on(1)},
	} {
		if got := At(x.p, linesOf(t, x.p), api.Point{X: x.x, Y: x.y}); got != x.want {
			t.Errorf("P10.3: %s: At of %d, %d in %x is %v, want %v", x.name, x.x, x.y, x.p.Text, got, x.want)
		}
	}
	if got := At(broken(), nil, api.Point{X: 70, Y: 100}); got != on(0) {
		t.Errorf("P10.3: At without lines is %v", got)
	}
}

// move is Left or Right.
type move func(api.Paragraph, []api.Line, api.Caret) api.Caret

// walk returns the carets that are reached from c, up to the first one from which the way does not lead on, or leads to one that was reached before.
func walk(t *testing.T, p api.Paragraph, c api.Caret, step move) []api.Caret {
	l := linesOf(t, p)
	passed := []api.Caret{c}
	for {
		c = step(p, l, c)
		if slices.Contains(passed, c) {
			return passed
		}
		passed = append(passed, c)
	}
}

func TestLeftAndRight(t *testing.T) {
	crlf := plain([]rune("ab\r\nc\n"), api.BaseAuto, 200)
	right := plain([]rune{bet, gimel, '\n', '\n', bet}, api.BaseRight, 200)
	turning := plain([]rune{'a', '\n', bet, '\n', 'b'}, api.BaseAuto, 200)
	marks := plain([]rune{'e', acute, bet, acute, '\t'}, api.BaseLeft, 200)
	for _, x := range []struct {
		name string
		p    api.Paragraph
		step move
		way  []api.Caret
	}{
		{"right", broken(), Right, []api.Caret{on(0), after(1), after(2), after(3), on(3), after(4), after(5), after(6), on(6), after(7)}},
		{"left", broken(), Left, []api.Caret{after(7), on(6), after(6), on(5), on(4), on(3), after(3), on(2), on(1), on(0)}},
		{"right over newlines", crlf, Right, []api.Caret{on(0), after(1), after(2), on(4), after(5), on(6)}},
		{"left over newlines", crlf, Left, []api.Caret{on(6), after(5), on(4), after(2), on(1), on(0)}},
		{"right in both directions", mixed(), Right, []api.Caret{on(0), after(1), on(2), on(1), after(4)}},
		{"left in both directions", mixed(), Left, []api.Caret{after(4), on(3), after(2), after(3), on(0)}},
		{"right in a number", reversed(), Right, []api.Caret{on(2), after(3), after(4), on(1), on(0)}},
		{"left in a number", reversed(), Left, []api.Caret{on(0), after(1), after(2), on(3), on(2)}},
		{"left over lines from right to left", right, Left, []api.Caret{on(0), after(1), after(2), on(3), on(4), after(5)}},
		{"right over lines from right to left", right, Right, []api.Caret{after(5), on(4), on(3), after(2), on(1), on(0)}},
		// From a line to the left the way leads on to the line after it, but from that, to the right, to the line before it.
		{"right over lines of both directions", turning, Right, []api.Caret{on(0), after(1), after(3), on(2)}},
		{"left over lines of both directions", turning, Left, []api.Caret{after(5), on(4), on(2), after(3)}},
		{"right over clusters", marks, Right, []api.Caret{on(0), after(2), on(2), after(5)}},
		{"left over clusters", marks, Left, []api.Caret{after(5), on(4), after(4), on(0)}},
		{"right without text", plain(nil, api.BaseAuto, 0), Right, []api.Caret{on(0)}},
		{"left without text", plain(nil, api.BaseRight, 0), Left, []api.Caret{on(0)}},
	} {
		if got := walk(t, x.p, x.way[0], x.step); !slices.Equal(got, x.way) {
			t.Errorf("P10.4: %s: the way in %x is %v, want %v", x.name, x.p.Text, got, x.way)
		}
	}
}

// TestStanding examines carets that cannot be moved by one cell.
func TestStanding(t *testing.T) {
	p := plain([]rune{'a', acute, '\r', '\n', bet}, api.BaseAuto, 200)
	for _, step := range []struct {
		name string
		move move
	}{
		{"P10.4: Left", Left}, {"P10.4: Right", Right}, {"P10.5: Home", Home}, {"P10.5: End", End},
		{"P10.5: Up", func(p api.Paragraph, l []api.Line, c api.Caret) api.Caret { return Up(p, l, c, 70) }},
		{"P10.5: Down", func(p api.Paragraph, l []api.Line, c api.Caret) api.Caret { return Down(p, l, c, 70) }},
	} {
		for _, c := range []api.Caret{on(-1), after(-1), on(1), after(1), on(3), after(3), on(6), after(6), after(math.MaxInt), on(math.MinInt)} {
			if got := step.move(p, linesOf(t, p), c); got != c {
				t.Errorf("%s of the caret %v, which is not valid, is %v", step.name, c, got)
			}
		}
		for _, c := range []api.Caret{on(0), after(0), on(2), after(5)} {
			if got := step.move(p, nil, c); got != c {
				t.Errorf("%s of %v without lines is %v", step.name, c, got)
			}
		}
	}
}

func TestUpAndDown(t *testing.T) {
	up := func(x int) move {
		return func(p api.Paragraph, l []api.Line, c api.Caret) api.Caret { return Up(p, l, c, x) }
	}
	down := func(x int) move {
		return func(p api.Paragraph, l []api.Line, c api.Caret) api.Caret { return Down(p, l, c, x) }
	}
	empty := plain([]rune{'\n', '\n', bet, gimel}, api.BaseRight, 200)
	for _, x := range []struct {
		name    string
		p       api.Paragraph
		step    move
		c, want api.Caret
	}{
		{"up from the first line", broken(), up(70), after(3), after(3)},
		{"up from the second line", broken(), up(70), on(3), on(1)},
		{"up from its end", broken(), up(80), after(6), after(2)},
		{"up from the last line", broken(), up(20), on(6), on(3)},
		{"up far on the right", broken(), up(math.MaxInt), after(7), after(6)},
		{"down from the first line", broken(), down(70), after(3), on(4)},
		{"down from the second line", broken(), down(70), on(3), after(7)},
		{"down from the last line", broken(), down(0), on(6), on(6)},
		{"down far on the left", broken(), down(math.MinInt), on(0), on(3)},
		{"up to a line without cells", empty, up(70), on(1), on(0)},
		{"down to a line without cells", empty, down(70), after(0), on(1)},
		{"up from a line from right to left", empty, up(200), after(3), on(1)},
		{"down to a line from right to left", empty, down(170), on(1), after(3)},
		{"down without text", plain(nil, api.BaseAuto, 0), down(5), after(0), after(0)},
	} {
		if got := x.step(x.p, linesOf(t, x.p), x.c); got != x.want {
			t.Errorf("P10.5: %s: %v in %x leads to %v, want %v", x.name, x.c, x.p.Text, got, x.want)
		}
	}
}

func TestHomeAndEnd(t *testing.T) {
	lf := plain([]rune{'a', acute, '\r', '\n', '\n', bet, ' ', '\n'}, api.BaseAuto, 200)
	for _, x := range []struct {
		name         string
		p            api.Paragraph
		c, home, end api.Caret
	}{
		{"the first line", broken(), on(0), on(0), after(3)},
		{"its end", broken(), after(3), on(0), after(3)},
		{"the second line", broken(), on(3), on(3), after(6)},
		{"the last line", broken(), after(7), on(6), after(7)},
		{"before CR LF", lf, on(0), on(0), after(2)},
		{"at CR LF", lf, on(2), on(0), after(2)},
		{"a line without cells", lf, on(4), on(4), on(4)},
		{"the same, before", lf, after(4), on(4), on(4)},
		{"a space before a line feed", lf, on(5), on(5), after(7)},
		{"the last line without runes", lf, after(8), on(8), on(8)},
		{"both directions", mixed(), on(2), on(0), after(4)},
		{"from right to left", reversed(), on(2), on(0), after(4)},
		{"the last rune in the middle", plain([]rune{'a', bet, gimel}, api.BaseLeft, 200), on(0), on(0), after(3)},
		{"no text", plain(nil, api.BaseAuto, 0), after(0), on(0), on(0)},
	} {
		l := linesOf(t, x.p)
		if home, end := Home(x.p, l, x.c), End(x.p, l, x.c); home != x.home || end != x.end {
			t.Errorf("P10.5: %s: Home and End of %v in %x are %v and %v, want %v and %v", x.name, x.c, x.p.Text, home, end, x.home, x.end)
		}
	}
}

func TestSelection(t *testing.T) {
	marks := plain([]rune{'a', 'e', acute, 'b'}, api.BaseLeft, 200)
	lf := plain([]rune{'a', ' ', '\n', '\n', gimel, '\n', bet, gimel}, api.BaseAuto, 200)
	numbers := plain([]rune{bet, '1', '2', '3', gimel}, api.BaseRight, 250)
	all := []api.Rect{{W: 100, H: 100}, {Y: 100, W: 100, H: 100}, {Y: 200, W: 10, H: 130}}
	for _, x := range []struct {
		name     string
		p        api.Paragraph
		from, to int
		want     []api.Rect
	}{
		{"everything", broken(), 0, 7, all},
		{"more than everything", broken(), math.MinInt, math.MaxInt, all},
		{"everything, from the end", broken(), 7, 0, all},
		{"more than everything, from the end", broken(), math.MaxInt, math.MinInt, all},
		{"nothing", broken(), 2, 2, nil},
		{"before the text", broken(), -5, 0, nil},
		{"after the text", broken(), 7, 9, nil},
		{"one letter", broken(), 1, 2, []api.Rect{{X: 50, W: 50, H: 100}}},
		{"over two lines", broken(), 1, 4, []api.Rect{{X: 50, W: 50, H: 100}, {Y: 100, W: 50, H: 100}}},
		{"a space without width", broken(), 2, 3, nil},
		{"a cluster", marks, 1, 3, []api.Rect{{X: 50, W: 50, H: 100}}},
		{"the beginning of a cluster", marks, 0, 2, []api.Rect{{W: 50, H: 100}}},
		{"the end of a cluster", marks, 2, 4, []api.Rect{{X: 100, W: 50, H: 100}}},
		{"no newlines", lf, 1, 6, []api.Rect{{X: 50, W: 15, H: 100}, {X: 165, Y: 200, W: 35, H: 100}}},
		{"only newlines", lf, 2, 4, nil},
		{"from right to left", lf, 6, 8, []api.Rect{{X: 100, Y: 300, W: 100, H: 100}}},
		{"both directions", mixed(), 1, 3, []api.Rect{{X: 50, W: 100, H: 100}}},
		{"one part of a line in both directions", mixed(), 0, 2, []api.Rect{{W: 50, H: 100}, {X: 100, W: 50, H: 100}}},
		{"the other part", mixed(), 2, 4, []api.Rect{{X: 50, W: 50, H: 100}, {X: 150, W: 50, H: 100}}},
		{"two parts of a line from right to left", numbers, 0, 2, []api.Rect{{X: 50, W: 50, H: 100}, {X: 200, W: 50, H: 100}}},
		{"three cells with others between them", numbers, 2, 5, []api.Rect{{W: 50, H: 100}, {X: 100, W: 100, H: 100}}},
		{"a part of a ligature", plain([]rune("afib"), api.BaseLeft, 200), 2, 3, []api.Rect{{X: 66, W: 17, H: 100}}},
		{"aligned", api.Paragraph{Text: []rune("ab"), Spans: []api.Span{{To: 2, Size: 100}}, Align: api.AlignEnd, Width: 300}, 0, 1, []api.Rect{{X: 200, W: 50, H: 100}}},
		{"no text", plain(nil, api.BaseAuto, 0), 0, 5, nil},
	} {
		if got := Selection(x.p, linesOf(t, x.p), x.from, x.to); !slices.Equal(got, x.want) {
			t.Errorf("P10.6: %s: the rectangles of %d to %d in %x are %v, want %v", x.name, x.from, x.to, x.p.Text, got, x.want)
		}
	}
	if got := Selection(broken(), nil, 0, 7); len(got) != 0 {
		t.Errorf("P10.6: the selection without lines is %v", got)
	}
}
