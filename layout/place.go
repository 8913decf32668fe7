package layout

import (
	"slices"

	"widgetry/api"
	"widgetry/constraint"
	"widgetry/view"
)

// demand is what an attribute demands of a child: where it is relative to the child that the attribute names, across or down.
type demand struct {
	name     string
	down     bool
	relation int
	strength int
}

var demands = [4]demand{
	{name: "left", relation: api.RelationAtLeast, strength: api.StrengthStrong},
	{name: "above", down: true, relation: api.RelationAtLeast, strength: api.StrengthStrong},
	{name: "alignleft", relation: api.RelationEqual, strength: api.StrengthMedium},
	{name: "aligntop", down: true, relation: api.RelationEqual, strength: api.StrengthMedium},
}

// placeRects returns the rectangles of the children of a place. Its constraints are about their distances from the side where it begins, which are the even variables, and from its top, which are the odd ones.
func (e *element) placeRects(iw int) []api.Rect {
	l := make([]api.Rect, len(e.children))
	for i, kid := range e.children {
		l[i].W = kid.fittingWidth(iw)
		l[i].H = kid.height(l[i].W)
	}
	var constraints []api.Constraint
	for i, kid := range e.children {
		constraints = append(constraints, e.named(kid, i, l)...)
		constraints = append(constraints, api.Constraint{A: 2 * i, B: -1, Relation: api.RelationAtMost, C: iw - l[i].W, Strength: api.StrengthWeak})
	}
	// There is no error: few enough children are shown, each has five constraints at most, and none of these is required.
	s, _ := constraint.Solve(2*len(l), constraints)
	for i := range l {
		l[i].X, l[i].Y = e.fromStart(s.Values[2*i], iw, l[i].W), s.Values[2*i+1]
	}
	return l
}

// named returns the constraints of kid, the child i, to children that its attributes name. The children have the extents of l.
func (e *element) named(kid *element, i int, l []api.Rect) []api.Constraint {
	var constraints []api.Constraint
	for _, d := range demands {
		k, ok := e.partner(kid, d.name)
		if !ok {
			continue
		}
		c := api.Constraint{A: 2 * i, B: 2 * k, Relation: d.relation, Strength: d.strength}
		extent := l[k].W
		if d.down {
			c.A, c.B, extent = c.A+1, c.B+1, l[k].H
		}
		if d.relation == api.RelationAtLeast {
			c.C = length(extent + e.style[api.PropGap])
		}
		constraints = append(constraints, c)
	}
	return constraints
}

// partner returns the index of the child that an attribute of another child, kid, names by its key, and whether there is one.
func (e *element) partner(kid *element, name string) (int, bool) {
	key := view.Text(kid.Attrs, name)
	k := slices.IndexFunc(e.children, func(x *element) bool { return x != kid && x.Key == key })
	return k, key != "" && k >= 0
}
