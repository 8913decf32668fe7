package paragraph

import (
	"slices"
	"testing"

	"widgetry/api"
	"widgetry/bidi"
	"widgetry/char"
	"widgetry/fixed"
	"widgetry/font"
	"widgetry/linebreak"
	"widgetry/segment"
	"widgetry/shape"
)

// chapter reads P9.2 to P9.6 step by step, each time anew.
type chapter struct {
	p     api.Paragraph
	fonts []api.Font
}

// sections returns the ends of each section.
func (c chapter) sections() [][2]int {
	var found [][2]int
	from := 0
	for i, b := range linebreak.Breaks(c.p.Text) {
		if b == api.Mandatory {
			found = append(found, [2]int{from, i + 1})
			from = i + 1
		}
	}
	n := len(c.p.Text)
	if n == 0 || slices.Contains([]int{api.LineBK, api.LineCR, api.LineLF}, char.Line(c.p.Text[n-1])) {
		found = append(found, [2]int{n, n})
	}
	return found
}

// base returns the base level of a section.
func (c chapter) base(s [2]int) int {
	return bidi.Base(c.p.Text[s[0]:s[1]], c.p.Base)
}

// levels returns the levels of the line of the runes from to to-1.
func (c chapter) levels(s [2]int, from, to int) []int {
	text := c.p.Text[s[0]:s[1]]
	levels := bidi.Reset(text, bidi.Levels(text, c.p.Base), c.base(s), from-s[0], to-s[0])
	clusters := segment.Clusters(c.p.Text)
	for i := 1; i < len(levels); i++ {
		if !slices.Contains(clusters, from+i) {
			levels[i] = levels[i-1]
		}
	}
	return levels
}

// spanAt returns the index of the span of a rune.
func (c chapter) spanAt(at int) int {
	return slices.IndexFunc(c.p.Spans, func(s api.Span) bool { return s.From <= at && at < s.To })
}

// glyphs returns the glyphs of a line in visual order: a run is placed where the first one of its runes appears.
func (c chapter) glyphs(s [2]int, from, to int) []api.Glyph {
	levels := c.levels(s, from, to)
	same := func(i, j int) bool { return levels[i] == levels[j] && c.spanAt(from+i) == c.spanAt(from+j) }
	var glyphs []api.Glyph
	placed := make([]bool, len(levels))
	for _, i := range bidi.Order(levels) {
		if placed[i] {
			continue
		}
		first, last := i, i
		for first > 0 && same(first-1, i) {
			first--
		}
		for last+1 < len(levels) && same(last+1, i) {
			last++
		}
		for j := first; j <= last; j++ {
			placed[j] = true
		}
		span := c.p.Spans[c.spanAt(from+i)]
		glyphs = append(glyphs, shape.Run(c.fonts[span.Font], span.Font, span.Size, c.p.Text, from+first, from+last+1, levels[i]%2 == 1)...)
	}
	return glyphs
}

// blank reports whether a glyph consists of white space of the line that ends at to.
func (c chapter) blank(g api.Glyph, to int) bool {
	for i := g.From; i < to; i++ {
		if !slices.Contains([]int{api.LineSP, api.LineBK, api.LineCR, api.LineLF}, char.Line(c.p.Text[i])) {
			return false
		}
	}
	return true
}

func (c chapter) fitting(s [2]int, from, to int) int {
	sum := 0
	for _, g := range c.glyphs(s, from, to) {
		if !c.blank(g, to) {
			sum += g.Advance
		}
	}
	return sum
}

// stops returns the positions of a section from low on at which Breaks is Allowed or Mandatory.
func (c chapter) stops(s [2]int, low int) []int {
	var found []int
	for i, b := range linebreak.Breaks(c.p.Text) {
		if b != api.Prohibited && low <= i+1 && i+1 <= s[1] {
			found = append(found, i+1)
		}
	}
	return found
}

// end returns where the line of s that begins at from ends.
func (c chapter) end(s [2]int, from int) int {
	fits := func(to int) bool { return c.fitting(s, from, to) <= c.p.Width }
	stops := c.stops(s, from+1)
	first := slices.IndexFunc(stops, func(to int) bool { return !fits(to) })
	switch {
	case first < 0:
		return s[1]
	case first > 0:
		return stops[first-1]
	}
	var inner []int
	for _, at := range segment.Clusters(c.p.Text) {
		if from < at && at < stops[0] {
			inner = append(inner, at)
		}
	}
	if len(inner) == 0 {
		return stops[0]
	}
	first = slices.IndexFunc(inner, func(to int) bool { return !fits(to) })
	switch {
	case first < 0:
		return inner[len(inner)-1]
	case first > 0:
		return inner[first-1]
	}
	return inner[0]
}

func (c chapter) lines() []api.Line {
	var lines []api.Line
	y := 0
	for _, s := range c.sections() {
		from := s[0]
		for {
			to := s[1]
			if from < s[1] {
				to = c.end(s, from)
			}
			line := c.line(s, from, to)
			line.Y = y
			y += line.Height
			lines = append(lines, line)
			from = to
			if to == s[1] {
				break
			}
		}
	}
	return lines
}

func (c chapter) line(s [2]int, from, to int) api.Line {
	line := api.Line{From: from, To: to, Level: c.base(s), Glyphs: c.glyphs(s, from, to)}
	for i, g := range line.Glyphs {
		if to != s[1] && c.blank(g, to) {
			line.Glyphs[i].Advance = 0
		}
		line.Width += line.Glyphs[i].Advance
	}
	free := c.p.Width - line.Width
	odd := line.Level%2 == 1
	switch {
	case c.p.Align == api.AlignCenter:
		line.X = fixed.Floor(free, 2)
	case c.p.Align == api.AlignStart && odd, c.p.Align == api.AlignEnd && !odd:
		line.X = free
	}
	x := line.X
	for i := range line.Glyphs {
		line.Glyphs[i].X = x
		x += line.Glyphs[i].Advance
	}
	for i, span := range c.p.Spans {
		if from == to && i < len(c.p.Spans)-1 || from < to && (span.To <= from || span.From >= to) {
			continue
		}
		f := c.fonts[span.Font]
		line.Ascent = max(line.Ascent, font.Ascent(f, span.Size))
		line.Descent = max(line.Descent, font.Descent(f, span.Size))
		line.Height = max(line.Height, font.Height(f, span.Size))
	}
	line.Height = max(line.Height, line.Ascent+line.Descent)
	return line
}

func (c chapter) least() int {
	widest := 0
	for _, s := range c.sections() {
		from := s[0]
		for _, to := range c.stops(s, s[0]+1) {
			widest = max(widest, c.fitting(s, from, to))
			from = to
		}
	}
	return widest
}

func (c chapter) most() int {
	widest := 0
	for _, s := range c.sections() {
		for _, to := range c.stops(s, s[0]+1) {
			widest = max(widest, c.fitting(s, s[0], to))
		}
	}
	return widest
}

// everyText calls use with each text of the length over the runes.
func everyText(runes []rune, length int, use func(text []rune)) {
	text := make([]rune, length)
	var fill func(at int)
	fill = func(at int) {
		if at == length {
			use(text)
			return
		}
		for _, r := range runes {
			text[at] = r
			fill(at + 1)
		}
	}
	fill(0)
}

// TestTextsOfManyKinds compares the lines of all short texts over runes of many kinds with the chapter.
func TestTextsOfManyKinds(t *testing.T) {
	kinds := []rune{'a', 'f', 'i', 'V', 'w', ' ', '-', '1', '(', '\n', '\r', 0x2028, alef, acute, kanji, 0x200D, 0x600, 0x2067, 0x202E, 0x200B, 0x3000}
	for length := range 3 {
		everyText(kinds, length, func(text []rune) {
			for _, base := range []int{api.BaseAuto, api.BaseLeft, api.BaseRight} {
				checkParagraph(t, plain(text, base, 0))
			}
		})
	}
	everyText(kinds, 3, func(text []rune) { checkParagraph(t, spanned(text, api.BaseAuto, 0, 1+int(text[0])%2, 3)) })
}

// TestLongerTexts compares the lines of texts over a few runes, in one span and in two.
func TestLongerTexts(t *testing.T) {
	for _, runes := range [][]rune{{'a', ' ', alef, '\n'}, {'f', 'i', ' ', kanji}, {'V', ' ', acute, 0x600}, {kanji, moon, sun, ' '}, {'w', 'a', '\r', '\n'}, {alef, 0x200D, ' ', '1'}} {
		everyText(runes, 5, func(text []rune) {
			base := int(text[0])%3 - 1
			checkParagraph(t, plain(text, base, 0))
			checkParagraph(t, spanned(text, base, 0, 2, 5))
		})
	}
}

// checkParagraph compares the paragraph at some widths and with each alignment.
func checkParagraph(t *testing.T, p api.Paragraph) {
	t.Helper()
	c := chapter{p, fonts()}
	least, most := Least(p, fonts()), Most(p, fonts())
	if least != c.least() || most != c.most() {
		t.Fatalf("P9.6: %x, spans %v, base %d: Least and Most are %d and %d, want %d and %d", p.Text, p.Spans, p.Base, least, most, c.least(), c.most())
	}
	for i, width := range []int{55, least, max(0, most-1), most} {
		p.Width, p.Align = width, i%3
		c.p = p
		got, e := Lines(p, fonts())
		if want := c.lines(); e != api.OK || !sameLines(got, want) {
			t.Fatalf("P9.2 to P9.5: %x, spans %v, base %d, align %d, width %d: the lines are\n%v, error %d, want\n%v", p.Text, p.Spans, p.Base, p.Align, width, got, e, want)
		}
		checkCover(t, p, got)
		if width >= most && len(got) != len(c.sections()) {
			t.Fatalf("P9.7: %x at the width %d has %d lines, but Most is %d", p.Text, width, len(got), most)
		}
		if width >= least {
			checkEnds(t, p, got)
		}
	}
	if Least(p, fonts()) != least || Most(p, fonts()) != most {
		t.Fatalf("P9.7: the width %d changes Least and Most of %x", p.Width, p.Text)
	}
}

// checkCover checks that the lines cover the text, and their glyphs the lines.
func checkCover(t *testing.T, p api.Paragraph, l []api.Line) {
	t.Helper()
	end := 0
	for _, line := range l {
		if line.From != end || line.To < line.From {
			t.Fatalf("P9.7: %x: a line from %d to %d follows the rune %d", p.Text, line.From, line.To, end)
		}
		end = line.To
		covered := 0
		for _, g := range line.Glyphs {
			covered += g.To - g.From
		}
		if covered != line.To-line.From {
			t.Fatalf("P9.3: %x: the glyphs of the line from %d to %d cover %d runes", p.Text, line.From, line.To, covered)
		}
	}
	if end != len(p.Text) {
		t.Fatalf("P9.7: %x: the lines end at %d", p.Text, end)
	}
}

// checkEnds checks that no line ends within an unbreakable part.
func checkEnds(t *testing.T, p api.Paragraph, l []api.Line) {
	t.Helper()
	breaks := linebreak.Breaks(p.Text)
	for _, line := range l {
		if line.To > 0 && breaks[line.To-1] == api.Prohibited {
			t.Fatalf("P9.7: %x at the width %d: a line ends at %d", p.Text, p.Width, line.To)
		}
	}
}
