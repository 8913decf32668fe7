package layout

import (
	"slices"

	"widgetry/api"
	"widgetry/box"
	"widgetry/constraint"
	"widgetry/fixed"
	"widgetry/font"
	"widgetry/geometry"
	"widgetry/grid"
	"widgetry/paragraph"
	"widgetry/style"
	"widgetry/view"
)

// The functions of this file that end in Read follow the sentences of chapter 21 one by one. Nothing is kept: each number is computed anew wherever it is needed. An error ends them by panic.

// world is what the functions of the chapter have as arguments.
type world struct {
	t     api.Tree
	st    []api.Styled
	fonts []api.Font
}

// when ends a reading with an error if a condition applies.
func when(applies bool, e api.Errno) {
	if applies {
		panic(e)
	}
}

// errorOf returns the error with which a reading ends.
func errorOf(reading func()) (e api.Errno) {
	defer func() {
		if r := recover(); r != nil {
			e = r.(api.Errno)
		}
	}()
	reading()
	return api.OK
}

func (w world) node(id int) api.Node {
	i := slices.IndexFunc(w.t.Nodes, func(n api.Node) bool { return n.ID == id })
	return w.t.Nodes[i]
}

func (w world) style(id int) api.Style {
	i := slices.IndexFunc(w.st, func(s api.Styled) bool { return s.ID == id })
	return w.st[i].Style
}

// checkRead is the part of P21.1 about the tree and the styles.
func (w world) checkRead() {
	if e := view.Check(w.t); e != api.OK {
		panic(e)
	}
	when(len(w.st) != len(w.t.Nodes), api.ErrMissing)
	for i, n := range w.t.Nodes {
		when(w.st[i].ID != n.ID, api.ErrMissing)
	}
	for _, s := range w.st {
		for prop := 0; prop < api.PropCount; prop++ {
			when(!style.InRange(prop, s.Style[prop]), api.ErrRange)
		}
	}
}

// argumentsRead is P21.1 without the result.
func (w world) argumentsRead(size api.Size) {
	w.checkRead()
	when(size.W < 0 || size.W > api.MaxLength || size.H < 0 || size.H > api.MaxLength, api.ErrRange)
	when(len(w.fonts) == 0 || len(w.fonts) > 8, api.ErrTooLong)
	for _, f := range w.fonts {
		if e := font.Validate(f); e != api.OK {
			panic(e)
		}
	}
	for _, n := range w.t.Nodes {
		when(w.isShown(n.ID) && w.style(n.ID)[api.PropDisplay] == api.DisplayPlace && len(w.kids(n.ID)) > 32, api.ErrTooLong)
	}
}

func isTextRead(kind int) bool {
	return kind == api.KindLabel || kind == api.KindField || kind == api.KindLink || kind == api.KindHeading
}

func isFigureRead(kind int) bool {
	return kind == api.KindImage || kind == api.KindSlider
}

// isShown is P21.2 for one node.
func (w world) isShown(id int) bool {
	n := w.node(id)
	if w.style(id)[api.PropDisplay] == api.DisplayNone || view.Flag(n.Attrs, "hidden") {
		return false
	}
	if n.Parent == 0 {
		return true
	}
	kind := w.node(n.Parent).Kind
	return w.isShown(n.Parent) && !isTextRead(kind) && !isFigureRead(kind)
}

func (w world) shownRead() []int {
	w.checkRead()
	var ids []int
	for _, id := range view.Order(w.t) {
		if w.isShown(id) {
			ids = append(ids, id)
		}
	}
	return ids
}

// kids returns the children of a node in the sense of the chapter.
func (w world) kids(id int) []int {
	var ids []int
	for _, kid := range w.node(id).Kids {
		if w.isShown(kid) {
			ids = append(ids, kid)
		}
	}
	return ids
}

func paragraphRead(n api.Node, s api.Style, fonts, width int) api.Paragraph {
	p := api.Paragraph{Base: s[api.PropDirection], Align: s[api.PropTextAlign], Width: fixed.Clamp(width, 0, api.MaxLength)}
	for _, r := range view.Text(n.Attrs, "text") {
		if len(p.Text) < 2000 {
			p.Text = append(p.Text, r)
		}
	}
	face := s[api.PropFontFace]
	if !(face < fonts) {
		face = 0
	}
	p.Spans = []api.Span{{From: 0, To: len(p.Text), Font: face, Size: s[api.PropFontSize]}}
	v, _ := view.Attr(n.Attrs, "spans")
	if v.Kind != api.ValueList || len(v.L) < 1 || len(v.L) > 100 {
		return p
	}
	var l []api.Span
	end := 0
	for i, x := range v.L {
		if x.Kind != api.ValueList || len(x.L) != 4 {
			return p
		}
		for _, y := range x.L {
			if y.Kind != api.ValueInt {
				return p
			}
		}
		from, to, face, size := x.L[0].N, x.L[1].N, x.L[2].N, x.L[3].N
		empty := len(p.Text) == 0 && len(v.L) == 1 && i == 0 && to == 0
		if from != end || !(from < to) && !empty || face < 0 || face > fonts-1 || size < 1 || size > api.MaxSize {
			return p
		}
		l = append(l, api.Span{From: from, To: to, Font: face, Size: size})
		end = to
	}
	if end == len(p.Text) {
		p.Spans = l
	}
	return p
}

func (w world) paragraph(id, width int) api.Paragraph {
	return paragraphRead(w.node(id), w.style(id), len(w.fonts), width)
}

func (w world) lines(id, iw int) []api.Line {
	l, e := paragraph.Lines(w.paragraph(id, iw), w.fonts)
	when(e != api.OK, e)
	return l
}

// display returns the display that counts for a node that is neither a text nor a figure.
func (w world) display(id int) int {
	if w.node(id).Kind == api.KindScroll {
		return api.DisplayColumn
	}
	return w.style(id)[api.PropDisplay]
}

func lengthRead(n int) int { return fixed.Clamp(n, 0, api.MaxLength) }

func (w world) gaps(id, n int) int {
	if n == 0 {
		return 0
	}
	return (n - 1) * w.style(id)[api.PropGap]
}

// widthRead is P21.4: Least, or Most if wide is true.
func (w world) widthRead(id int, wide bool) int {
	s, n := w.style(id), w.node(id)
	pad := s[api.PropPadStart] + s[api.PropPadEnd]
	inner := 0
	switch {
	case isTextRead(n.Kind) && wide:
		inner = paragraph.Most(w.paragraph(id, 77), w.fonts)
	case isTextRead(n.Kind):
		inner = paragraph.Least(w.paragraph(id, 77), w.fonts)
	case isFigureRead(n.Kind):
		inner = lengthRead(view.Number(n.Attrs, "width", 0))
	case w.display(id) == api.DisplayRow:
		for _, kid := range w.kids(id) {
			inner += w.widthRead(kid, wide)
		}
		inner += w.gaps(id, len(w.kids(id)))
	case w.display(id) == api.DisplayGrid && wide:
		inner = grid.Most(s[api.PropGap], w.columnsRead(id), w.itemsRead(id))
	case w.display(id) == api.DisplayGrid:
		inner = grid.Least(s[api.PropGap], w.columnsRead(id), w.itemsRead(id))
	default:
		for _, kid := range w.kids(id) {
			inner = max(inner, w.widthRead(kid, wide))
		}
	}
	return fixed.Clamp(min(inner+pad, api.MaxLength), s[api.PropMinWidth], s[api.PropMaxWidth])
}

func (w world) columnsRead(id int) []api.Track {
	otherwise := []api.Track{{Kind: api.TrackFraction, N: 1}}
	v, ok := view.Attr(w.node(id).Attrs, "columns")
	if !ok || v.Kind != api.ValueList || len(v.L) < 1 || len(v.L) > 24 {
		return otherwise
	}
	var l []api.Track
	for _, x := range v.L {
		switch {
		case x.Kind != api.ValueInt || x.N < -1000 || x.N > api.MaxLength:
			return otherwise
		case x.N > 0:
			l = append(l, api.Track{Kind: api.TrackFixed, N: x.N})
		case x.N == 0:
			l = append(l, api.Track{Kind: api.TrackAuto})
		default:
			l = append(l, api.Track{Kind: api.TrackFraction, N: -x.N})
		}
	}
	return l
}

func (w world) areasRead(id int) []api.Area {
	var spans []int
	for _, kid := range w.kids(id) {
		spans = append(spans, view.Number(w.node(kid).Attrs, "span", 1))
	}
	return grid.Place(len(w.columnsRead(id)), spans)
}

func (w world) itemsRead(id int) []api.Extent {
	var l []api.Extent
	for i, a := range w.areasRead(id) {
		kid := w.kids(id)[i]
		l = append(l, api.Extent{At: a.Col, Span: a.Span, Min: w.widthRead(kid, false), Max: w.widthRead(kid, true)})
	}
	return l
}

// innerRead returns iw and ih of an extent.
func (w world) innerRead(id, width, height int) (iw, ih int) {
	s := w.style(id)
	iw = width - (s[api.PropPadStart] + s[api.PropPadEnd])
	ih = height - s[api.PropPadTop] - s[api.PropPadBottom]
	return max(iw, 0), max(ih, 0)
}

// columnWidthRead is the column width of P21.5.
func (w world) columnWidthRead(parent, kid, iw int) int {
	s := w.style(kid)
	x := iw
	if w.style(parent)[api.PropAlign] != api.AlignStretch {
		x = min(iw, w.widthRead(kid, true))
	}
	return fixed.Clamp(x, s[api.PropMinWidth], s[api.PropMaxWidth])
}

// rowWidthsRead are the row widths of P21.5.
func (w world) rowWidthsRead(id, iw int) []int {
	var l []api.Flex
	for _, kid := range w.kids(id) {
		s := w.style(kid)
		f := api.Flex{Basis: s[api.PropBasis], Min: max(s[api.PropMinWidth], w.widthRead(kid, false)), Max: s[api.PropMaxWidth], Grow: s[api.PropGrow], Shrink: s[api.PropShrink]}
		if f.Basis == -1 {
			f.Basis = w.widthRead(kid, true)
		}
		l = append(l, f)
	}
	widths, e := box.Resolve(lengthRead(iw), w.style(id)[api.PropGap], l)
	when(e != api.OK, e)
	return widths
}

// baselinesRead returns what a row with AlignBaseline gives box.Baseline.
func (w world) baselinesRead(id int, widths []int) (heights, baselines []int) {
	for i, kid := range w.kids(id) {
		heights = append(heights, w.heightRead(kid, widths[i]))
		baselines = append(baselines, lengthRead(w.baselineRead(kid, widths[i])))
	}
	return heights, baselines
}

// heightRead is P21.5. A width is an extent here, too (P21.1).
func (w world) heightRead(id, width int) int {
	s, n := w.style(id), w.node(id)
	iw, _ := w.innerRead(id, lengthRead(width), 0)
	inner := 0
	switch {
	case isTextRead(n.Kind):
		inner = paragraph.Height(w.lines(id, iw))
	case isFigureRead(n.Kind):
		inner = lengthRead(view.Number(n.Attrs, "height", 0))
	case n.Kind == api.KindScroll && s[api.PropBasis] != -1:
		inner = s[api.PropBasis]
	case w.display(id) == api.DisplayRow:
		heights, baselines := w.baselinesRead(id, w.rowWidthsRead(id, iw))
		for _, h := range heights {
			inner = max(inner, h)
		}
		if s[api.PropAlign] == api.AlignBaseline {
			_, inner = box.Baseline(heights, baselines)
		}
	case w.display(id) == api.DisplayGrid:
		_, rows := w.gridRead(id, iw)
		for _, h := range rows {
			inner += h
		}
		inner += w.gaps(id, len(rows))
	case w.display(id) == api.DisplayPlace:
		for _, r := range w.placesRead(id, iw) {
			inner = max(inner, r.Y+r.H)
		}
	default:
		for _, kid := range w.kids(id) {
			inner += w.heightRead(kid, w.columnWidthRead(id, kid, iw))
		}
		inner += w.gaps(id, len(w.kids(id)))
	}
	h := min(inner+s[api.PropPadTop]+s[api.PropPadBottom], api.MaxLength)
	return fixed.Clamp(h, s[api.PropMinHeight], s[api.PropMaxHeight])
}

// baselineRead is the baseline of P21.5.
func (w world) baselineRead(id, width int) int {
	n, width := w.node(id), lengthRead(width)
	height := w.heightRead(id, width)
	if isTextRead(n.Kind) {
		iw, _ := w.innerRead(id, width, 0)
		return w.style(id)[api.PropPadTop] + w.lines(id, iw)[0].Ascent
	}
	if isFigureRead(n.Kind) || len(w.kids(id)) == 0 {
		return height
	}
	first := w.rectsRead(id, width, height)[0]
	return first.Y + w.baselineRead(w.kids(id)[0], first.W)
}

// rectsRead is P21.6: the rectangles of the children of a node with an extent.
func (w world) rectsRead(id, width, height int) []api.Rect {
	if kind := w.node(id).Kind; isTextRead(kind) || isFigureRead(kind) {
		return nil
	}
	iw, ih := w.innerRead(id, width, height)
	s := w.style(id)
	var l []api.Rect
	switch w.display(id) {
	case api.DisplayRow:
		l = w.rowRead(id, iw, ih)
	case api.DisplayGrid:
		l, _ = w.gridRead(id, iw)
	case api.DisplayPlace:
		l = w.placesRead(id, iw)
	default:
		l = w.columnRead(id, iw, ih)
	}
	for i := range l {
		if s[api.PropDirection] == 1 {
			l[i].X += s[api.PropPadEnd]
		} else {
			l[i].X += s[api.PropPadStart]
		}
		l[i].Y += s[api.PropPadTop]
	}
	return l
}

func (w world) columnRead(id, iw, ih int) []api.Rect {
	s, scrolling := w.style(id), w.node(id).Kind == api.KindScroll
	var widths, heights []int
	var elements []api.Flex
	for _, kid := range w.kids(id) {
		k, width := w.style(kid), w.columnWidthRead(id, kid, iw)
		h := w.heightRead(kid, width)
		f := api.Flex{Basis: k[api.PropBasis], Min: k[api.PropMinHeight], Max: k[api.PropMaxHeight], Grow: k[api.PropGrow], Shrink: k[api.PropShrink]}
		if f.Basis == -1 {
			f.Basis, f.Min = h, max(f.Min, h)
		}
		widths, heights, elements = append(widths, width), append(heights, h), append(elements, f)
	}
	justify := s[api.PropJustify]
	if scrolling {
		justify = api.AlignStart
	} else {
		resolved, e := box.Resolve(ih, s[api.PropGap], elements)
		when(e != api.OK, e)
		heights = resolved
	}
	align := s[api.PropAlign]
	if align == api.AlignStretch {
		align = api.AlignStart
	}
	offsets := box.Offsets(ih, s[api.PropGap], justify, heights, false)
	var l []api.Rect
	for i := range w.kids(id) {
		x, _ := box.Align(align, iw, widths[i], s[api.PropDirection] == 1)
		l = append(l, api.Rect{X: x, Y: offsets[i], W: widths[i], H: heights[i]})
	}
	return l
}

func (w world) rowRead(id, iw, ih int) []api.Rect {
	s := w.style(id)
	widths := w.rowWidthsRead(id, iw)
	offsets := box.Offsets(iw, s[api.PropGap], s[api.PropJustify], widths, s[api.PropDirection] == 1)
	heights, baselines := w.baselinesRead(id, widths)
	below, _ := box.Baseline(heights, baselines)
	var l []api.Rect
	for i, kid := range w.kids(id) {
		r := api.Rect{X: offsets[i], W: widths[i]}
		if s[api.PropAlign] == api.AlignBaseline {
			r.Y, r.H = below[i], heights[i]
		} else {
			r.Y, r.H = box.Align(s[api.PropAlign], ih, heights[i], false)
		}
		if s[api.PropAlign] == api.AlignStretch {
			r.H = fixed.Clamp(r.H, w.style(kid)[api.PropMinHeight], w.style(kid)[api.PropMaxHeight])
		}
		l = append(l, r)
	}
	return l
}

// gridRead is P21.7: the rectangles of the children, and the heights of the rows.
func (w world) gridRead(id, iw int) (l []api.Rect, rows []int) {
	s, areas := w.style(id), w.areasRead(id)
	gap := s[api.PropGap]
	sizes, e := grid.Tracks(iw, gap, w.columnsRead(id), w.itemsRead(id))
	when(e != api.OK, e)
	for i, kid := range w.kids(id) {
		a, r := areas[i], api.Rect{}
		for k := 0; k < a.Col; k++ {
			r.X += sizes[k] + gap
		}
		for k := a.Col; k < a.Col+a.Span; k++ {
			r.W += sizes[k]
			if k > a.Col {
				r.W += gap
			}
		}
		if s[api.PropDirection] == 1 {
			r.X = iw - r.X - r.W
		}
		for len(rows) <= a.Row {
			rows = append(rows, 0)
		}
		rows[a.Row] = max(rows[a.Row], w.heightRead(kid, r.W))
		l = append(l, r)
	}
	for i, a := range areas {
		l[i].H = rows[a.Row]
		for k := 0; k < a.Row; k++ {
			l[i].Y += rows[k] + gap
		}
	}
	return l, rows
}

// placesRead is P21.8.
func (w world) placesRead(id, iw int) []api.Rect {
	var l []api.Rect
	gap := w.style(id)[api.PropGap]
	for _, kid := range w.kids(id) {
		s := w.style(kid)
		width := fixed.Clamp(min(iw, w.widthRead(kid, true)), s[api.PropMinWidth], s[api.PropMaxWidth])
		l = append(l, api.Rect{W: width, H: w.heightRead(kid, width)})
	}
	var cs []api.Constraint
	for i := range l {
		if k, ok := w.otherRead(id, i, "left"); ok {
			cs = append(cs, api.Constraint{A: 2 * i, B: 2 * k, Relation: api.RelationAtLeast, C: min(l[k].W+gap, api.MaxLength), Strength: api.StrengthStrong})
		}
		if k, ok := w.otherRead(id, i, "above"); ok {
			cs = append(cs, api.Constraint{A: 2*i + 1, B: 2*k + 1, Relation: api.RelationAtLeast, C: min(l[k].H+gap, api.MaxLength), Strength: api.StrengthStrong})
		}
		if k, ok := w.otherRead(id, i, "alignleft"); ok {
			cs = append(cs, api.Constraint{A: 2 * i, B: 2 * k, Relation: api.RelationEqual, Strength: api.StrengthMedium})
		}
		if k, ok := w.otherRead(id, i, "aligntop"); ok {
			cs = append(cs, api.Constraint{A: 2*i + 1, B: 2*k + 1, Relation: api.RelationEqual, Strength: api.StrengthMedium})
		}
		cs = append(cs, api.Constraint{A: 2 * i, B: -1, Relation: api.RelationAtMost, C: iw - l[i].W, Strength: api.StrengthWeak})
	}
	system, e := constraint.Solve(2*len(l), cs)
	when(e != api.OK, e)
	for i := range l {
		l[i].X, l[i].Y = system.Values[2*i], system.Values[2*i+1]
		if w.style(id)[api.PropDirection] == 1 {
			l[i].X = iw - l[i].X - l[i].W
		}
	}
	return l
}

// otherRead returns the other child whose key an attribute of the child i is.
func (w world) otherRead(id, i int, name string) (int, bool) {
	kids := w.kids(id)
	v, _ := view.Attr(w.node(kids[i]).Attrs, name)
	for k, kid := range kids {
		if key := w.node(kid).Key; k != i && key != "" && v.Kind == api.ValueText && v.S == key {
			return k, true
		}
	}
	return 0, false
}

// computeRead is P21.9 and the rest of P21.1.
func (w world) computeRead(size api.Size) []api.Box {
	w.argumentsRead(size)
	var l []api.Box
	for _, n := range w.t.Nodes {
		if w.isShown(n.ID) {
			b := w.boxRead(n.ID, size)
			when(geometry.Validate(b.Rect) != api.OK, api.ErrRange)
			l = append(l, b)
		}
	}
	return l
}

// rectRead returns the rectangle of a shown node. That of a node in a rectangle that is not valid is not valid either, because it does not matter.
func (w world) rectRead(id int, size api.Size) api.Rect {
	n := w.node(id)
	if n.Parent == 0 {
		return api.Rect{W: size.W, H: size.H}
	}
	r := w.rectRead(n.Parent, size)
	if geometry.Validate(r) != api.OK {
		return r
	}
	return w.rectsRead(n.Parent, r.W, r.H)[slices.Index(w.kids(n.Parent), id)]
}

func (w world) boxRead(id int, size api.Size) api.Box {
	b := api.Box{ID: id, Rect: w.rectRead(id, size)}
	s, kids := w.style(id), w.kids(id)
	switch {
	case isTextRead(w.node(id).Kind):
		iw, _ := w.innerRead(id, b.Rect.W, 0)
		b.Lines = w.lines(id, iw)
		b.Baseline = s[api.PropPadTop] + b.Lines[0].Ascent
		left := s[api.PropPadStart]
		if s[api.PropDirection] == 1 {
			left = s[api.PropPadEnd]
		}
		for i := range b.Lines {
			b.Lines[i].X += left
			b.Lines[i].Y += s[api.PropPadTop]
			for k := range b.Lines[i].Glyphs {
				b.Lines[i].Glyphs[k].X += left
			}
		}
	case len(kids) > 0:
		first := w.boxRead(kids[0], size)
		b.Baseline = first.Rect.Y + first.Baseline
	default:
		b.Baseline = b.Rect.H
	}
	return b
}
