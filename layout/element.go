package layout

import (
	"widgetry/api"
	"widgetry/fixed"
	"widgetry/view"
)

// The ways in which a node is laid out.
const (
	asText = iota
	asFigure
	asColumn
	asRow
	asGrid
	asPlace
)

// element is a node with what its layout depends on.
type element struct {
	api.Node
	style    api.Style
	fonts    []api.Font
	children []*element // those that are shown
	rect     api.Rect   // relative to the parent, once that is settled
	known    known
}

// known is what is known of an element. It would be computed again and again for nested elements otherwise.
type known struct {
	widths    memory[int]        // by the need
	heights   memory[int]        // by the width
	baselines memory[int]        // by the width
	lines     memory[[]api.Line] // by the inner width
}

// memory keeps the results of a function by its arguments.
type memory[T any] map[int]T

// get returns what compute returns, which it calls only the first time.
func (m memory[T]) get(argument int, compute func(int) T) T {
	if result, ok := m[argument]; ok {
		return result
	}
	result := compute(argument)
	m[argument] = result
	return result
}

func newElement(n api.Node, s api.Style, fonts []api.Font) *element {
	return &element{Node: n, style: s, fonts: fonts, known: known{
		widths: memory[int]{}, heights: memory[int]{}, baselines: memory[int]{}, lines: memory[[]api.Line]{},
	}}
}

// way returns how e is laid out. What is not shown is laid out, too, if somebody asks for its extents.
func (e *element) way() int {
	switch e.Kind {
	case api.KindLabel, api.KindField, api.KindLink, api.KindHeading:
		return asText
	case api.KindImage, api.KindSlider:
		return asFigure
	case api.KindScroll:
		return asColumn
	}
	switch e.style[api.PropDisplay] {
	case api.DisplayRow:
		return asRow
	case api.DisplayGrid:
		return asGrid
	case api.DisplayPlace:
		return asPlace
	}
	return asColumn
}

// isLeaf reports whether the children of e are never shown.
func (e *element) isLeaf() bool {
	way := e.way()
	return way == asText || way == asFigure
}

func (e *element) isScrolling() bool {
	return e.Kind == api.KindScroll
}

// isHidden reports whether e and its descendants are not shown, whatever its ancestors are.
func (e *element) isHidden() bool {
	return e.style[api.PropDisplay] == api.DisplayNone || view.Flag(e.Attrs, "hidden")
}

// isCrowded reports whether e has more children than a constraint system can place.
func (e *element) isCrowded() bool {
	return e.style[api.PropDisplay] == api.DisplayPlace && len(e.children) > api.MaxVars/2
}

// isReversed reports whether e begins at its right side.
func (e *element) isReversed() bool {
	return e.style[api.PropDirection] == api.BaseRight
}

func (e *element) isStretching() bool {
	return e.style[api.PropAlign] == api.AlignStretch
}

func (e *element) alignsBaselines() bool {
	return e.style[api.PropAlign] == api.AlignBaseline
}

// padAcross returns what is left free at the two sides of e.
func (e *element) padAcross() int {
	return e.style[api.PropPadStart] + e.style[api.PropPadEnd]
}

// padDown returns what is left free above and below the content of e.
func (e *element) padDown() int {
	return e.style[api.PropPadTop] + e.style[api.PropPadBottom]
}

// innerWidth returns the width of the content of e if e has the width w.
func (e *element) innerWidth(w int) int {
	return max(w-e.padAcross(), 0)
}

// innerHeight returns the height of the content of e if e has the height h.
func (e *element) innerHeight(h int) int {
	return max(h-e.padDown(), 0)
}

// corner returns where the content of e begins.
func (e *element) corner() api.Point {
	left := api.PropPadStart
	if e.isReversed() {
		left = api.PropPadEnd
	}
	return api.Point{X: e.style[left], Y: e.style[api.PropPadTop]}
}

// gaps returns the sum of the gaps between the children, which follow one another.
func (e *element) gaps() int {
	return e.style[api.PropGap] * max(len(e.children)-1, 0)
}

// limitWidth returns the width that e can have and that is nearest to w. It is an extent, because the limits are.
func (e *element) limitWidth(w int) int {
	return fixed.Clamp(w, e.style[api.PropMinWidth], e.style[api.PropMaxWidth])
}

// limitHeight returns the height that e can have and that is nearest to h. It is an extent, because the limits are.
func (e *element) limitHeight(h int) int {
	return fixed.Clamp(h, e.style[api.PropMinHeight], e.style[api.PropMaxHeight])
}

// length returns the extent that is nearest to n.
func length(n int) int {
	return fixed.Clamp(n, 0, api.MaxLength)
}

func isLength(n int) bool {
	return within(n, 0, api.MaxLength)
}

func within(x, low, high int) bool {
	return low <= x && x <= high
}

func sumOf(l []int) int {
	sum := 0
	for _, x := range l {
		sum += x
	}
	return sum
}

// greatest returns the greatest one of l, which are at least 0, or 0.
func greatest(l []int) int {
	most := 0
	for _, x := range l {
		most = max(most, x)
	}
	return most
}
