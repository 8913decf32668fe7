package layout

import (
	"slices"
	"strconv"
	"testing"

	"widgetry/api"
)

// tie returns the part with an attribute that names a child.
func (p part) tie(name, key string) part { return p.with(name, text(key)) }

func TestPlaces(t *testing.T) {
	a, b, c := image(20, 10, nil).named("a"), image(30, 20, nil).named("b"), image(7, 9, nil).named("c")
	for _, x := range []struct {
		name string
		kids []part
		want []api.Rect
	}{
		{"nothing", []part{a, b}, []api.Rect{rect(0, 0, 20, 10), rect(0, 0, 30, 20)}},
		{"left", []part{a, b.tie("left", "a")}, []api.Rect{rect(0, 0, 20, 10), rect(25, 0, 30, 20)}},
		{"left of a later one", []part{a.tie("left", "b"), b}, []api.Rect{rect(35, 0, 20, 10), rect(0, 0, 30, 20)}},
		{"above", []part{a, b.tie("above", "a")}, []api.Rect{rect(0, 0, 20, 10), rect(0, 15, 30, 20)}},
		{"above a later one", []part{a.tie("above", "b"), b}, []api.Rect{rect(0, 25, 20, 10), rect(0, 0, 30, 20)}},
		{"both", []part{a, b.tie("left", "a").tie("above", "a")}, []api.Rect{rect(0, 0, 20, 10), rect(25, 15, 30, 20)}},
		{"a chain", []part{a, b.tie("left", "a"), c.tie("left", "b").tie("above", "a")}, []api.Rect{rect(0, 0, 20, 10), rect(25, 0, 30, 20), rect(60, 15, 7, 9)}},
		{"alignleft", []part{a, b.tie("left", "a"), c.tie("alignleft", "b").tie("above", "b")}, []api.Rect{rect(0, 0, 20, 10), rect(25, 0, 30, 20), rect(25, 25, 7, 9)}},
		{"aligntop", []part{a, b.tie("above", "a"), c.tie("aligntop", "b").tie("left", "b")}, []api.Rect{rect(0, 0, 20, 10), rect(0, 15, 30, 20), rect(35, 15, 7, 9)}},
		{"alignleft moves the other one", []part{a, b.tie("left", "a").tie("alignleft", "c"), c}, []api.Rect{rect(0, 0, 20, 10), rect(25, 0, 30, 20), rect(25, 0, 7, 9)}},
		{"aligntop moves the other one", []part{a, b.tie("above", "a").tie("aligntop", "c"), c}, []api.Rect{rect(0, 0, 20, 10), rect(0, 15, 30, 20), rect(0, 15, 7, 9)}},
		{"left is stronger than alignleft", []part{a, b.tie("alignleft", "a").tie("left", "a")}, []api.Rect{rect(0, 0, 20, 10), rect(25, 0, 30, 20)}},
		{"above is stronger than aligntop", []part{a, b.tie("aligntop", "a"), c.tie("above", "a"), a.named("d").tie("aligntop", "c").tie("above", "c")}, []api.Rect{rect(0, 0, 20, 10), rect(0, 0, 30, 20), rect(0, 15, 7, 9), rect(0, 29, 20, 10)}},
		{"left of a later child is stronger than alignleft", []part{a.tie("alignleft", "b"), b.tie("left", "a")}, []api.Rect{rect(0, 0, 20, 10), rect(25, 0, 30, 20)}},
		{"above a later child is stronger than aligntop", []part{a.tie("aligntop", "b"), b.tie("above", "a")}, []api.Rect{rect(0, 0, 20, 10), rect(0, 15, 30, 20)}},
		{"alignleft is stronger than the right side", []part{image(60, 10, nil).named("d"), image(50, 10, nil).named("e"), c.tie("left", "e").tie("alignleft", "d")}, []api.Rect{rect(55, 0, 60, 10), rect(0, 0, 50, 10), rect(55, 0, 7, 9)}},
		{"the first one of two that contradict each other", []part{a.tie("left", "b"), b.tie("left", "a")}, []api.Rect{rect(35, 0, 20, 10), rect(0, 0, 30, 20)}},
		{"the first one of two below each other", []part{a.tie("above", "b"), b.tie("above", "a")}, []api.Rect{rect(0, 25, 20, 10), rect(0, 0, 30, 20)}},
		{"left before alignleft of the same strength does not matter", []part{a.tie("left", "c"), b.tie("alignleft", "a"), c.tie("alignleft", "b")}, []api.Rect{rect(12, 0, 20, 10), rect(12, 0, 30, 20), rect(0, 0, 7, 9)}},
		{"beyond the right side", []part{a, b.tie("left", "a"), b.named("d").tie("left", "b"), c.tie("left", "d")}, []api.Rect{rect(0, 0, 20, 10), rect(25, 0, 30, 20), rect(60, 0, 30, 20), rect(95, 0, 7, 9)}},
	} {
		testRects(t, "P21.8: "+x.name, place(props{api.PropGap: 5}, x.kids...), 100, 100, x.want...)
		shifted := slices.Clone(x.want)
		mirrored := slices.Clone(x.want)
		for i, r := range x.want {
			shifted[i].X, shifted[i].Y = r.X+3, r.Y+4
			mirrored[i].X, mirrored[i].Y = 90-r.X-r.W+7, r.Y+4
		}
		p := place(pads, x.kids...)
		testRects(t, "P21.8: with pads: "+x.name, p, 100, 100, shifted...)
		testRects(t, "P21.8: from the right: "+x.name, p.styled(api.PropDirection, 1), 100, 3, mirrored...)
		bottom := 0
		for _, r := range x.want {
			bottom = max(bottom, r.Y+r.H)
		}
		testHeight(t, "P21.5: "+x.name, p, 100, bottom+10)
	}
}

// TestNoPartner passes attributes that name no other child.
func TestNoPartner(t *testing.T) {
	a := image(20, 10, nil).named("a")
	for _, name := range []string{"left", "above", "alignleft", "aligntop"} {
		for _, x := range []struct {
			name string
			kids []part
		}{
			{"no key", []part{a, a.named("").tie(name, "none")}},
			{"its own key", []part{a.tie(name, "a"), a.named("b")}},
			{"no text", []part{a, a.named("").with(name, num(1))}},
			{"an empty text", []part{a.named(""), a.named("").tie(name, "")}},
			{"a child that is not shown", []part{a.named(""), a.named("").tie(name, "a"), a.with("hidden", truth(1))}},
			{"the key of the place", []part{a, a.named("").tie(name, "root")}},
			{"the key of a grandchild", []part{a.named(""), a.named("").tie(name, "a"), column(nil, a).with("hidden", truth(0)).styled(api.PropMaxHeight, 0)}},
		} {
			p := place(props{api.PropGap: 5}, x.kids...).named("root")
			for i, b := range p.boxes(t, api.Size{W: 50, H: 50})[1:] {
				if b.Rect.X != 0 || b.Rect.Y != 0 {
					t.Errorf("P21.8: %q names %s: the child %d has the rectangle %v", name, x.name, i, b.Rect)
				}
			}
		}
	}
}

// TestPlaceExtents compares the widths of the children of places, and their heights for them.
func TestPlaceExtents(t *testing.T) {
	limited := func(low, high int) part { return label("ab cd", props{api.PropMinWidth: low, api.PropMaxWidth: high}) }
	for _, x := range []struct {
		low, high, w int
		want         api.Rect
	}{
		{0, far, 70, rect(0, 0, 50, 10)},
		{0, far, 50, rect(0, 0, 50, 10)},
		{0, far, 49, rect(0, 0, 49, 20)},
		{0, 45, 70, rect(0, 0, 45, 20)},
		{60, far, 70, rect(0, 0, 60, 10)},
		{60, far, 30, rect(0, 0, 60, 10)},
		{60, 45, 30, rect(0, 0, 60, 10)},
	} {
		p := place(props{api.PropAlign: api.AlignStretch}, limited(x.low, x.high))
		testRects(t, "P21.8: the width", p, x.w, 100, x.want)
		testHeight(t, "P21.8: the height", p, x.w, x.want.H)
	}
	testRects(t, "P21.8: too wide from the right", place(props{api.PropDirection: 1}, limited(60, far)), 30, 5, rect(-30, 0, 60, 10))
}

// TestFarPlaces passes distances beyond the greatest extent, which count as that.
func TestFarPlaces(t *testing.T) {
	wide := image(0, 9, props{api.PropMinWidth: far}).named("a")
	high := image(9, far, nil).named("a")
	b := image(5, 5, nil).named("b")
	p := props{api.PropGap: far}
	testRects(t, "P21.8: left of a wide child", place(p, wide, b.tie("left", "a")), 10, 10, rect(0, 0, far, 9), rect(far, 0, 5, 5))
	testRects(t, "P21.8: below a high child", place(p, high, b.tie("above", "a")), 10, 10, rect(0, 0, 9, far), rect(0, far, 5, 5))
	testHeight(t, "P21.8: below a high child", place(p, high, b.tie("above", "a")), 10, far)
	// A place that is not possible is that of the next weaker constraint.
	testRects(t, "P21.8: twice beside a gap", place(p, b, b.named("c").tie("left", "b"), b.named("d").tie("left", "c")), 10, 10, rect(0, 0, 5, 5), rect(far, 0, 5, 5), rect(0, 0, 5, 5))
}

// TestFullPlace passes as many children with as many constraints as possible.
func TestFullPlace(t *testing.T) {
	var kids []part
	key := func(i int) string { return "k" + strconv.Itoa(i) }
	for i := range api.MaxVars / 2 {
		kid := image(3, 4, nil).named(key(i))
		if i > 0 {
			kid = kid.tie("left", key(i-1)).tie("above", key(i-1)).tie("alignleft", key(0)).tie("aligntop", key(0))
		}
		kids = append(kids, kid)
	}
	for i, b := range place(props{api.PropGap: 1}, kids...).boxes(t, api.Size{W: 50, H: 50})[1:] {
		if b.Rect != rect(4*i, 5*i, 3, 4) {
			t.Errorf("P21.8: the child %d has the rectangle %v", i, b.Rect)
		}
	}
}
