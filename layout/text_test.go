package layout

import (
	"slices"
	"strings"
	"testing"

	"widgetry/api"
	"widgetry/style"
)

// initial returns the initial style with other values of some properties.
func initial(p props) api.Style {
	s := style.Initial()
	for prop, n := range p {
		s[prop] = n
	}
	return s
}

// textNode returns a node with the text and the spans, unless these are the zero value.
func textNode(s string, spans api.Value) api.Node {
	l := map[string]api.Value{"text": text(s)}
	if spans.Kind != 0 {
		l["spans"] = spans
	}
	return api.Node{Kind: api.KindLabel, Attrs: attrs(l)}
}

// sameParagraph compares paragraphs; a nil list is an empty one.
func sameParagraph(a, b api.Paragraph) bool {
	return slices.Equal(a.Text, b.Text) && slices.Equal(a.Spans, b.Spans) && a.Base == b.Base && a.Align == b.Align && a.Width == b.Width
}

func TestParagraph(t *testing.T) {
	s := initial(props{api.PropDirection: 1, api.PropTextAlign: api.AlignCenter, api.PropFontFace: 1, api.PropFontSize: 12})
	want := api.Paragraph{Text: []rune{'a', 0x5D0, ' '}, Spans: []api.Span{{To: 3, Font: 1, Size: 12}}, Base: api.BaseRight, Align: api.AlignCenter, Width: 70}
	if p := Paragraph(textNode("a\u05d0 ", api.Value{}), s, 2, 70); !sameParagraph(p, want) {
		t.Errorf("P21.3: Paragraph = %+v, want %+v", p, want)
	}
	want = api.Paragraph{Spans: []api.Span{{Size: 16}}}
	for _, n := range []api.Node{textNode("", api.Value{}), {Kind: api.KindLabel}, {Kind: api.KindLabel, Attrs: attrs(map[string]api.Value{"text": num(7)})}} {
		if p := Paragraph(n, initial(nil), 1, 0); !sameParagraph(p, want) {
			t.Errorf("P21.3: the paragraph of %v is %+v", n, p)
		}
	}
	// A string that is not valid UTF-8 has U+FFFD for each byte that is wrong.
	if p := Paragraph(textNode("a\xffb", api.Value{}), initial(nil), 1, 0); !slices.Equal(p.Text, []rune{'a', 0xFFFD, 'b'}) {
		t.Errorf("P21.3: the text is %q", p.Text)
	}
}

// TestKinds takes the paragraphs of all kinds of texts.
func TestKinds(t *testing.T) {
	for _, kind := range []int{api.KindLabel, api.KindField, api.KindLink, api.KindHeading} {
		n := textNode("ab", api.Value{})
		n.Kind = kind
		if p := Paragraph(n, initial(nil), 1, 9); string(p.Text) != "ab" || p.Width != 9 {
			t.Errorf("P21.3: the paragraph of the kind %d is %+v", kind, p)
		}
		p := part{kind: kind, attrs: map[string]api.Value{"text": text("ab cde")}}
		testWidths(t, "a text", p, 30, 60)
		testHeight(t, "P21.5: a text", p, 59, 20)
	}
}

func TestParagraphWidth(t *testing.T) {
	for width, want := range map[int]int{-1 << 62: 0, -1: 0, 0: 0, 5: 5, far: far, far + 1: far, 1 << 62: far} {
		if p := Paragraph(textNode("ab", api.Value{}), initial(nil), 1, width); p.Width != want {
			t.Errorf("P21.3: the width %d becomes %d", width, p.Width)
		}
	}
}

// TestLongText passes texts about as long as a text can be.
func TestLongText(t *testing.T) {
	for _, n := range []int{api.MaxText - 1, api.MaxText, api.MaxText + 1, 3 * api.MaxText} {
		want := min(n, api.MaxText)
		p := Paragraph(textNode(strings.Repeat("\u05d0", n-1)+"b", api.Value{}), initial(nil), 1, 9)
		if len(p.Text) != want || !slices.Equal(p.Spans, []api.Span{{To: want, Size: 16}}) || p.Text[want-1] == 'b' != (n == want) {
			t.Errorf("P21.3: of %d runes %d are left, with the spans %v", n, len(p.Text), p.Spans)
		}
		// The spans have to cover what is left of the text.
		p = Paragraph(textNode(strings.Repeat("\u05d0", n), list(numbers(0, 7, 0, 5), numbers(7, want, 0, 6))), initial(nil), 1, 9)
		if len(p.Spans) != 2 {
			t.Errorf("P21.3: %d runes have the spans %v", n, p.Spans)
		}
	}
}

// TestFace passes faces that there are and others.
func TestFace(t *testing.T) {
	for _, x := range [][3]int{{0, 1, 0}, {1, 1, 0}, {1, 2, 1}, {7, 8, 7}, {7, 7, 0}, {2, 8, 2}} {
		p := Paragraph(textNode("ab", api.Value{}), initial(props{api.PropFontFace: x[0]}), x[1], 9)
		if !slices.Equal(p.Spans, []api.Span{{To: 2, Font: x[2], Size: 16}}) {
			t.Errorf("P21.3: with the face %d and %d fonts the spans are %v", x[0], x[1], p.Spans)
		}
	}
}

func TestSpans(t *testing.T) {
	kind := func(l ...int) api.Value { // four numbers, of which one is a bool
		v := numbers(l...)
		v.L[1].Kind = api.ValueBool
		return v
	}
	two := []api.Span{{To: 2, Font: 1, Size: 10}, {From: 2, To: 5, Size: 1000}}
	for _, x := range []struct {
		name, s string
		v       api.Value
		want    []api.Span // none: one with the whole text
	}{
		{"two spans", "ab cd", list(numbers(0, 2, 1, 10), numbers(2, 5, 0, 1000)), two},
		{"the least size", "ab", list(numbers(0, 2, 1, 1)), []api.Span{{To: 2, Font: 1, Size: 1}}},
		{"an empty text", "", list(numbers(0, 0, 1, 10)), []api.Span{{Font: 1, Size: 10}}},
		{"an empty text with two spans", "", list(numbers(0, 0, 1, 10), numbers(0, 0, 1, 10)), nil},
		{"a span too many", "ab", list(numbers(0, 2, 0, 10), numbers(2, 2, 0, 10)), nil},
		{"an empty span", "ab", list(numbers(0, 0, 0, 10), numbers(0, 2, 0, 10)), nil},
		{"a gap", "ab cd", list(numbers(0, 2, 1, 10), numbers(3, 5, 0, 10)), nil},
		{"an overlap", "ab cd", list(numbers(0, 3, 1, 10), numbers(2, 5, 0, 10)), nil},
		{"a late beginning", "ab", list(numbers(1, 2, 0, 10)), nil},
		{"an early beginning", "ab", list(numbers(-1, 2, 0, 10)), nil},
		{"an early end", "ab", list(numbers(0, 1, 0, 10)), nil},
		{"a late end", "ab", list(numbers(0, 3, 0, 10)), nil},
		{"backwards", "ab", list(numbers(0, 3, 0, 10), numbers(3, 2, 0, 10)), nil},
		{"a face below 0", "ab", list(numbers(0, 2, -1, 10)), nil},
		{"a face that is not there", "ab", list(numbers(0, 2, 2, 10)), nil},
		{"no size", "ab", list(numbers(0, 2, 0, 0)), nil},
		{"a great size", "ab", list(numbers(0, 2, 0, 1001)), nil},
		{"three numbers", "ab", list(numbers(0, 2, 0)), nil},
		{"five numbers", "ab", list(numbers(0, 2, 0, 10, 0)), nil},
		{"no numbers", "ab", list(list()), nil},
		{"a bool", "ab", list(kind(0, 2, 0, 10)), nil},
		{"a bool in the second span", "ab cd", list(numbers(0, 2, 1, 10), kind(2, 5, 0, 10)), nil},
		{"three numbers in the second span", "ab cd", list(numbers(0, 2, 1, 10), numbers(2, 5, 0)), nil},
		{"a text in the list", "ab", list(text("0 2 0 10")), nil},
		{"numbers in no list of lists", "ab", numbers(0, 2, 0, 10), nil},
		{"an empty list", "ab", list(), nil},
		{"an empty list for an empty text", "", list(), nil},
		{"a number", "ab", num(2), nil},
		{"a value with elements that is no list", "ab", api.Value{Kind: api.ValueInt, L: []api.Value{numbers(0, 2, 0, 10)}}, nil},
		{"an element with elements that is no list", "ab", list(api.Value{Kind: api.ValueInt, L: numbers(0, 2, 0, 10).L}), nil},
	} {
		want := x.want
		if want == nil {
			want = []api.Span{{To: len(x.s), Font: 0, Size: 16}}
		}
		p := Paragraph(textNode(x.s, x.v), initial(nil), 2, 9)
		if !slices.Equal(p.Spans, want) || string(p.Text) != x.s || p.Width != 9 {
			t.Errorf("P21.3: %s: %+v, want the spans %v", x.name, p, want)
		}
		if !sameParagraph(p, paragraphRead(textNode(x.s, x.v), initial(nil), 2, 9)) {
			t.Errorf("P21.3: %s: the reading is another one", x.name)
		}
	}
}

// TestManySpans passes as many spans as a list can have, and one more.
func TestManySpans(t *testing.T) {
	for n := api.MaxKids - 1; n <= api.MaxKids+1; n++ {
		var l []api.Value
		for i := range n {
			l = append(l, numbers(i, i+1, 0, 10))
		}
		want := n
		if n > api.MaxKids {
			want = 1
		}
		if p := Paragraph(textNode(strings.Repeat("a", n), list(l...)), initial(nil), 1, 9); len(p.Spans) != want {
			t.Errorf("P21.3: of %d spans %d are left", n, len(p.Spans))
		}
	}
}

// TestNoParagraph passes arguments that are not valid.
func TestNoParagraph(t *testing.T) {
	n := textNode("ab", api.Value{})
	for _, fonts := range []int{-1 << 62, -1, 0, 9, 1 << 62} {
		if p := Paragraph(n, initial(nil), fonts, 9); !sameParagraph(p, api.Paragraph{}) {
			t.Errorf("P21.1: with %d fonts: %+v", fonts, p)
		}
	}
	for prop := range api.PropCount {
		for _, value := range []int{-2, 1 << 30} {
			if p := Paragraph(n, initial(props{prop: value}), 1, 9); !sameParagraph(p, api.Paragraph{}) {
				t.Errorf("P21.1: with the value %d of the property %d: %+v", value, prop, p)
			}
		}
	}
}

// TestTextLines compares the lines of boxes, which stand in their boxes.
func TestTextLines(t *testing.T) {
	pads := props{api.PropPadStart: 3, api.PropPadTop: 4, api.PropPadEnd: 7, api.PropPadBottom: 6}
	ab := []api.Glyph{{ID: 'a', From: 0, To: 1, X: 3, Advance: 10, Size: 10}, {ID: 'b', From: 1, To: 2, X: 13, Advance: 10, Size: 10}, {ID: ' ', From: 2, To: 3, X: 23, Size: 10}}
	cd := []api.Glyph{{ID: 'c', From: 3, To: 4, X: 3, Advance: 10, Size: 10}, {ID: 'd', From: 4, To: 5, X: 13, Advance: 10, Size: 10}}
	first := api.Line{From: 0, To: 3, X: 3, Y: 4, Width: 20, Ascent: 8, Descent: 2, Height: 10, Glyphs: ab}
	second := api.Line{From: 3, To: 5, X: 3, Y: 14, Width: 20, Ascent: 8, Descent: 2, Height: 10, Glyphs: cd}
	box := label("ab cd", pads).boxes(t, api.Size{W: 50, H: 9})[0]
	want := api.Box{ID: 1, Rect: api.Rect{W: 50, H: 9}, Baseline: 12, Lines: []api.Line{first, second}}
	if !sameBoxes([]api.Box{box}, []api.Box{want}) {
		t.Errorf("P21.9: the box of a text is %+v, want %+v", box, want)
	}
	// With the other direction the inner rectangle begins at 7 and ends at 47, and the lines stand at its end.
	box = label("ab", plus(pads, api.PropDirection, 1)).boxes(t, api.Size{W: 50, H: 30})[0]
	if l := box.Lines; len(l) != 1 || l[0].X != 27 || l[0].Glyphs[0].X != 27 || l[0].Glyphs[1].X != 37 || l[0].Y != 4 {
		t.Errorf("P21.9: the lines of a text with the other direction are %+v", l)
	}
	// Without room there is a line for each cluster.
	box = label("ab", pads).boxes(t, api.Size{W: 9, H: 0})[0]
	if l := box.Lines; len(l) != 2 || l[0].X != 3 || l[1].Y != 14 {
		t.Errorf("P21.9: the lines of a text without room are %+v", l)
	}
	// A text in a line of its own begins where its direction says.
	box = label("ab", plus(pads, api.PropTextAlign, api.AlignEnd)).boxes(t, api.Size{W: 50, H: 30})[0]
	if x := box.Lines[0].X; x != 23 {
		t.Errorf("P21.9: a line at the end begins at %d", x)
	}
	for _, p := range []part{image(5, 5, nil), column(nil), row(nil), {kind: api.KindSlider}, scroll(nil), label("", nil).with("hidden", truth(1))} {
		for _, b := range column(nil, p).boxes(t, api.Size{W: 50, H: 50}) {
			if len(b.Lines) > 0 {
				t.Errorf("P21.9: the kind %d has lines", p.kind)
			}
		}
	}
}
