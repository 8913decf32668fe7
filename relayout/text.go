package relayout

import (
	"slices"

	"widgetry/api"
	"widgetry/expr"
)

// text is what the lines of a text depend on beside the fonts, which an update leaves alone.
type text struct {
	kind  int
	attrs []api.Attr
	style api.Style
	width int
}

// textsOf returns the texts of l that have a box, by their IDs. A layout that is none of this package may have boxes without nodes or styles.
func textsOf(l api.Layout) map[int]text {
	styles, widths := map[int]api.Style{}, map[int]int{}
	for _, s := range l.Styles {
		styles[s.ID] = s.Style
	}
	for _, b := range l.Boxes {
		widths[b.ID] = b.Rect.W
	}
	texts := map[int]text{}
	for _, n := range l.Tree.Nodes {
		if width, ok := widths[n.ID]; ok && isText(n.Kind) {
			texts[n.ID] = text{kind: n.Kind, attrs: n.Attrs, style: styles[n.ID], width: width}
		}
	}
	return texts
}

// isText reports whether the nodes of the kind are laid out in lines.
func isText(kind int) bool {
	switch kind {
	case api.KindLabel, api.KindField, api.KindLink, api.KindHeading:
		return true
	}
	return false
}

// repeats reports whether nothing of x differs from old.
func (x text) repeats(old text) bool {
	return x.kind == old.kind && x.width == old.width && x.style == old.style && slices.EqualFunc(x.attrs, old.attrs, equalAttrs)
}

func equalAttrs(a, b api.Attr) bool {
	return a.Name == b.Name && expr.Equal(a.Value, b.Value)
}
