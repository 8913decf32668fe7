package geometry

import (
	"math"
	"testing"

	"widgetry/api"
)

const most = api.MaxLength

func rect(x, y, w, h int) api.Rect { return api.Rect{X: x, Y: y, W: w, H: h} }

func point(x, y int) api.Point { return api.Point{X: x, Y: y} }

// invalid returns rectangles that each break one limit, or several.
func invalid() []api.Rect {
	return []api.Rect{
		rect(-most-1, 0, 5, 5), rect(most+1, 0, 5, 5), rect(0, -most-1, 5, 5), rect(0, most+1, 5, 5),
		rect(0, 0, -1, 5), rect(0, 0, most+1, 5), rect(0, 0, 5, -1), rect(0, 0, 5, most+1),
		rect(math.MinInt, 0, 5, 5), rect(0, math.MaxInt, 5, 5), rect(0, 0, math.MinInt, 5), rect(0, 0, 5, math.MaxInt),
		rect(math.MaxInt, math.MaxInt, math.MaxInt, math.MaxInt), rect(math.MinInt, math.MinInt, math.MinInt, math.MinInt),
	}
}

// small returns all rectangles near the origin, those without points too.
func small() []api.Rect {
	l := []api.Rect{}
	for x := -2; x <= 1; x++ {
		for y := -2; y <= 1; y++ {
			for w := 0; w <= 3; w++ {
				for h := 0; h <= 3; h++ {
					l = append(l, rect(x, y, w, h))
				}
			}
		}
	}
	return l
}

// near calls f with all points that the rectangles of small can contain, and those around them.
func near(f func(api.Point)) {
	for x := -4; x <= 5; x++ {
		for y := -4; y <= 5; y++ {
			f(point(x, y))
		}
	}
}

// holds is the condition of P2.1, for rectangles of any extent.
func holds(r api.Rect, p api.Point) bool {
	return r.X <= p.X && p.X < r.X+r.W && r.Y <= p.Y && p.Y < r.Y+r.H
}

func TestValidate(t *testing.T) {
	for _, r := range []api.Rect{rect(0, 0, 0, 0), rect(1, 2, 3, 4), rect(-most, -most, 0, 0), rect(most, most, most, most), rect(-most, most, most, 0), rect(0, 0, 0, 5)} {
		if e := Validate(r); e != api.OK {
			t.Errorf("P2.1: Validate(%v) = %d", r, e)
		}
	}
	for _, r := range invalid() {
		if e := Validate(r); e != api.ErrRange {
			t.Errorf("P2.1: Validate(%v) = %d, want ErrRange", r, e)
		}
	}
}

func TestEmpty(t *testing.T) {
	for _, r := range small() {
		if got := Empty(r); got != (r.W == 0 || r.H == 0) {
			t.Errorf("P2.1: Empty(%v) = %v", r, got)
		}
	}
	for _, r := range []api.Rect{rect(most, most, most, most), rect(-most, -most, 1, 1)} {
		if Empty(r) {
			t.Errorf("P2.1: Empty(%v)", r)
		}
	}
	for _, r := range append(invalid(), api.Rect{}, rect(5, 5, 0, most), rect(5, 5, most, 0)) {
		if !Empty(r) {
			t.Errorf("P2.1: Empty(%v) is false", r)
		}
	}
}

func TestContains(t *testing.T) {
	for _, r := range small() {
		near(func(p api.Point) {
			if got := Contains(r, p); got != holds(r, p) {
				t.Errorf("P2.1: Contains(%v, %v) = %v", r, p, got)
			}
		})
	}
	whole := rect(most, most, most, most)
	tests := []struct {
		p    api.Point
		want bool
	}{
		{point(most, most), true}, {point(2*most-1, 2*most-1), true},
		{point(2*most, most), false}, {point(most, 2*most), false}, {point(most-1, most), false}, {point(most, most-1), false},
		{point(math.MaxInt, math.MaxInt), false}, {point(math.MinInt, math.MinInt), false}, {point(most, math.MaxInt), false},
	}
	for _, x := range tests {
		if got := Contains(whole, x.p); got != x.want {
			t.Errorf("P2.1: Contains(%v, %v) = %v", whole, x.p, got)
		}
	}
	for _, r := range invalid() {
		for _, p := range []api.Point{point(0, 0), point(r.X, r.Y), point(1, 1), point(r.X+1, r.Y+1)} {
			if Contains(r, p) {
				t.Errorf("P2.1: Contains(%v, %v)", r, p)
			}
		}
	}
}

func TestIntersect(t *testing.T) {
	tests := []struct{ a, b, want api.Rect }{
		{rect(0, 0, 4, 4), rect(2, 2, 4, 4), rect(2, 2, 2, 2)},
		{rect(0, 0, 9, 9), rect(2, 3, 4, 5), rect(2, 3, 4, 5)},
		{rect(-5, 1, 6, 9), rect(-3, -4, 9, 6), rect(-3, 1, 4, 1)},
		{rect(1, 1, 4, 4), rect(5, 1, 4, 4), api.Rect{}},
		{rect(1, 1, 4, 4), rect(1, 5, 4, 4), api.Rect{}},
		{rect(1, 1, 4, 4), rect(50, 2, 4, 4), api.Rect{}},
		{rect(1, 1, 4, 4), rect(2, 2, 0, 2), api.Rect{}},
		{rect(most, most, most, most), rect(most, most, most, most), rect(most, most, most, most)},
		{rect(-most, -most, most, most), rect(most, most, most, most), api.Rect{}},
	}
	for _, x := range tests {
		if got := Intersect(x.a, x.b); got != x.want {
			t.Errorf("P2.1: Intersect(%v, %v) = %v, want %v", x.a, x.b, got, x.want)
		}
		if got := Intersect(x.b, x.a); got != x.want {
			t.Errorf("P2.1: Intersect(%v, %v) = %v, want %v", x.b, x.a, got, x.want)
		}
	}
	whole := rect(0, 0, most, most)
	for _, r := range invalid() {
		if a, b, c := Intersect(r, whole), Intersect(whole, r), Intersect(r, r); a != (api.Rect{}) || b != a || c != a {
			t.Errorf("P2.1: Intersect with %v is %v, %v or %v", r, a, b, c)
		}
	}
}

// TestIntersectPoints compares the points of intersections with those that both rectangles contain.
func TestIntersectPoints(t *testing.T) {
	for _, a := range small() {
		for _, b := range small() {
			c, count := Intersect(a, b), 0
			near(func(p api.Point) {
				both := holds(a, p) && holds(b, p)
				if both {
					count++
				}
				if holds(c, p) != both {
					t.Fatalf("P2.1: Intersect(%v, %v) = %v at %v", a, b, c, p)
				}
			})
			if c.W*c.H != count || count == 0 && c != (api.Rect{}) {
				t.Fatalf("P2.1: Intersect(%v, %v) = %v with %d points", a, b, c, count)
			}
		}
	}
}

func TestUnion(t *testing.T) {
	tests := []struct{ a, b, want api.Rect }{
		{rect(0, 0, 4, 4), rect(2, 3, 4, 4), rect(0, 0, 6, 7)},
		{rect(-9, 5, 1, 1), rect(20, -30, 2, 3), rect(-9, -30, 31, 36)},
		{rect(0, 0, 9, 9), rect(2, 3, 4, 5), rect(0, 0, 9, 9)},
		{rect(1, 2, 3, 4), rect(50, 60, 0, 7), rect(1, 2, 3, 4)},
		{rect(1, 2, 3, 4), rect(-50, -60, 7, 0), rect(1, 2, 3, 4)},
		{rect(1, 2, 0, 4), rect(5, 6, 7, 0), api.Rect{}},
		{rect(1, 2, 0, 0), rect(1, 2, 0, 0), api.Rect{}},
		{rect(-most, -most, 1, 1), rect(most, most, most, most), rect(-most, -most, 3*most, 3*most)},
	}
	for _, x := range tests {
		if got := Union(x.a, x.b); got != x.want {
			t.Errorf("P2.1: Union(%v, %v) = %v, want %v", x.a, x.b, got, x.want)
		}
		if got := Union(x.b, x.a); got != x.want {
			t.Errorf("P2.1: Union(%v, %v) = %v, want %v", x.b, x.a, got, x.want)
		}
	}
	full, empty := rect(3, 4, 5, 6), rect(3, 4, 5, 0)
	for _, r := range invalid() {
		if a, b := Union(r, full), Union(full, r); a != full || b != full {
			t.Errorf("P2.1: Union with %v is %v or %v, want %v", r, a, b, full)
		}
		if a, b, c := Union(r, empty), Union(empty, r), Union(r, r); a != (api.Rect{}) || b != a || c != a {
			t.Errorf("P2.1: Union with %v is %v, %v or %v", r, a, b, c)
		}
	}
}

// TestUnionPoints requires of unions that they contain all points, and that each side touches one.
func TestUnionPoints(t *testing.T) {
	for _, a := range small() {
		for _, b := range small() {
			c := Union(a, b)
			left, right, top, bottom, any := 99, -99, 99, -99, false
			near(func(p api.Point) {
				if holds(a, p) || holds(b, p) {
					left, right, top, bottom, any = min(left, p.X), max(right, p.X), min(top, p.Y), max(bottom, p.Y), true
				}
			})
			want := api.Rect{}
			if any {
				want = rect(left, top, right+1-left, bottom+1-top)
			}
			if c != want {
				t.Fatalf("P2.1: Union(%v, %v) = %v, want %v", a, b, c, want)
			}
		}
	}
}

func TestShrink(t *testing.T) {
	r := rect(10, 20, 30, 40)
	tests := []struct {
		r    api.Rect
		i    api.Insets
		want api.Rect
	}{
		{r, api.Insets{}, r},
		{r, api.Insets{Left: 1, Top: 2, Right: 4, Bottom: 8}, rect(11, 22, 25, 30)},
		{r, api.Insets{Left: 29}, rect(39, 20, 1, 40)}, {r, api.Insets{Right: 29}, rect(10, 20, 1, 40)},
		{r, api.Insets{Top: 39}, rect(10, 59, 30, 1)}, {r, api.Insets{Bottom: 39}, rect(10, 20, 30, 1)},
		{r, api.Insets{Left: 30}, api.Rect{}}, {r, api.Insets{Right: 30}, api.Rect{}}, {r, api.Insets{Top: 40}, api.Rect{}}, {r, api.Insets{Bottom: 40}, api.Rect{}},
		{r, api.Insets{Left: 15, Right: 15}, api.Rect{}}, {r, api.Insets{Top: 25, Bottom: 20}, api.Rect{}},
		{r, api.Insets{Left: 40, Top: 50, Right: 40, Bottom: 50}, api.Rect{}}, {r, api.Insets{Left: most, Top: most, Right: most, Bottom: most}, api.Rect{}},
		{r, api.Insets{Left: math.MinInt, Right: math.MaxInt}, api.Rect{}}, {r, api.Insets{Top: math.MaxInt, Bottom: math.MinInt}, api.Rect{}},
		{rect(5, 5, 0, 9), api.Insets{}, api.Rect{}}, {rect(5, 5, 9, 0), api.Insets{}, api.Rect{}},
		{rect(most, most, most, most), api.Insets{Left: most - 1, Top: most - 1}, rect(2*most-1, 2*most-1, 1, 1)},
		{rect(most, most, most, most), api.Insets{Left: most}, api.Rect{}},
	}
	for _, x := range tests {
		if got := Shrink(x.r, x.i); got != x.want {
			t.Errorf("P2.2: Shrink(%v, %v) = %v, want %v", x.r, x.i, got, x.want)
		}
	}
	for _, r := range invalid() {
		if got := Shrink(r, api.Insets{}); got != (api.Rect{}) {
			t.Errorf("P2.1: Shrink(%v, {}) = %v", r, got)
		}
		if got := Shrink(r, api.Insets{Left: 1, Top: 1, Right: 1, Bottom: 1}); got != (api.Rect{}) {
			t.Errorf("P2.1: Shrink(%v, 1) = %v", r, got)
		}
	}
}

// TestShrinkLimits sets one inset out of range; the others are 0.
func TestShrinkLimits(t *testing.T) {
	for side := range 4 {
		for _, bad := range []int{-1, most + 1, math.MinInt, math.MinInt + 1, math.MaxInt - 1, math.MaxInt} {
			l := [4]int{}
			l[side] = bad
			i := api.Insets{Left: l[0], Top: l[1], Right: l[2], Bottom: l[3]}
			for _, r := range []api.Rect{rect(0, 0, most, most), rect(most, most, most, most), rect(-most, -most, 9, 9)} {
				if got := Shrink(r, i); got != (api.Rect{}) {
					t.Errorf("P2.2: Shrink(%v, %v) = %v", r, i, got)
				}
			}
		}
	}
}

func TestShift(t *testing.T) {
	r := rect(10, 20, 30, 40)
	corner := rect(-most, -most, most, most)
	tests := []struct {
		r      api.Rect
		dx, dy int
		want   api.Rect
	}{
		{r, 0, 0, r}, {r, 3, -5, rect(13, 15, 30, 40)}, {r, -30, 1, rect(-20, 21, 30, 40)},
		{rect(1, 2, 0, 3), 4, 5, rect(5, 7, 0, 3)},
		{corner, 2 * most, 2 * most, rect(most, most, most, most)},
		{rect(most, most, 0, 0), -2 * most, -2 * most, rect(-most, -most, 0, 0)},
		{corner, 2*most + 1, 0, api.Rect{}}, {corner, 0, 2*most + 1, api.Rect{}},
		{rect(most, most, 0, 0), -2*most - 1, 0, api.Rect{}}, {rect(most, most, 0, 0), 0, -2*most - 1, api.Rect{}},
		{r, most - 10, 0, rect(most, 20, 30, 40)}, {r, most - 9, 0, api.Rect{}}, {r, 0, most - 20, rect(10, most, 30, 40)}, {r, 0, most - 19, api.Rect{}},
		{r, -most - 10, 0, rect(-most, 20, 30, 40)}, {r, -most - 11, 0, api.Rect{}}, {r, 0, -most - 20, rect(10, -most, 30, 40)}, {r, 0, -most - 21, api.Rect{}},
		{r, math.MaxInt, 0, api.Rect{}}, {r, 0, math.MinInt, api.Rect{}}, {r, math.MinInt, math.MaxInt, api.Rect{}},
	}
	for _, x := range tests {
		if got := Shift(x.r, x.dx, x.dy); got != x.want {
			t.Errorf("P2.2: Shift(%v, %d, %d) = %v, want %v", x.r, x.dx, x.dy, got, x.want)
		}
	}
	for _, r := range invalid() {
		if got, want := Shift(r, 7, -8), (rect(7, -8, 0, 0)); got != want {
			t.Errorf("P2.1: Shift(%v, 7, -8) = %v, want %v, as of the zero rectangle", r, got, want)
		}
		if got := Shift(r, most+1, 0); got != (api.Rect{}) {
			t.Errorf("P2.2: Shift(%v, %d, 0) = %v", r, most+1, got)
		}
	}
}

// wrong returns transforms that each break one limit, or several.
func wrong() []api.Transform {
	return []api.Transform{
		{}, {Turn: -1, Scale: 1}, {Turn: 4, Scale: 1}, {Scale: 0}, {Scale: -1}, {Scale: api.MaxScale + 1},
		{Scale: 1, DX: most + 1}, {Scale: 1, DX: -most - 1}, {Scale: 1, DY: most + 1}, {Scale: 1, DY: -most - 1},
		{Turn: math.MaxInt, Scale: 1}, {Turn: math.MinInt, Scale: 1}, {Scale: math.MaxInt}, {Scale: math.MinInt}, {Scale: 1, DX: math.MinInt}, {Scale: 1, DY: math.MaxInt},
		{Turn: math.MaxInt, Mirror: true, Scale: math.MaxInt, DX: math.MaxInt, DY: math.MaxInt},
	}
}

// transforms returns all turns and mirrorings, with some scales and movements.
func transforms() []api.Transform {
	l := []api.Transform{}
	for turn := range 4 {
		for _, mirror := range []bool{false, true} {
			for _, scale := range []int{1, 2, 3} {
				for _, move := range []api.Point{point(0, 0), point(1, -2), point(-5, 4)} {
					l = append(l, api.Transform{Turn: turn, Mirror: mirror, Scale: scale, DX: move.X, DY: move.Y})
				}
			}
		}
	}
	return l
}

// mapped is the mapping of P2.3, with the four turns written out.
func mapped(t api.Transform, x, y int) (int, int) {
	if t.Mirror {
		x = -x
	}
	switch t.Turn {
	case 1:
		x, y = -y, x
	case 2:
		x, y = -x, -y
	case 3:
		x, y = y, -x
	}
	return x*t.Scale + t.DX, y*t.Scale + t.DY
}

// covered returns the smallest rectangle with the images of all four corners of r.
func covered(t api.Transform, r api.Rect) api.Rect {
	x1, y1 := mapped(t, r.X, r.Y)
	x2, y2 := mapped(t, r.X+r.W, r.Y)
	x3, y3 := mapped(t, r.X, r.Y+r.H)
	x4, y4 := mapped(t, r.X+r.W, r.Y+r.H)
	x, y := min(x1, x2, x3, x4), min(y1, y2, y3, y4)
	return api.Rect{X: x, Y: y, W: max(x1, x2, x3, x4) - x, H: max(y1, y2, y3, y4) - y}
}

func TestCheck(t *testing.T) {
	for _, x := range append(transforms(), api.Transform{Turn: 3, Mirror: true, Scale: api.MaxScale, DX: most, DY: most}, api.Transform{Scale: 1, DX: -most, DY: -most}) {
		if e := Check(x); e != api.OK {
			t.Errorf("P2.3: Check(%v) = %d", x, e)
		}
	}
	for _, x := range wrong() {
		if e := Check(x); e != api.ErrRange {
			t.Errorf("P2.3: Check(%v) = %d, want ErrRange", x, e)
		}
	}
}

func TestApply(t *testing.T) {
	r := rect(2, 3, 5, 7)
	tests := []struct {
		t       api.Transform
		r, want api.Rect
	}{
		{api.Transform{Turn: 1, Scale: 1}, rect(0, 0, 2, 1), rect(-1, 0, 1, 2)},
		{api.Transform{Scale: 1}, r, r},
		{api.Transform{Scale: 1, DX: 10, DY: -20}, r, rect(12, -17, 5, 7)},
		{api.Transform{Scale: 3, DX: 10, DY: -20}, r, rect(16, -11, 15, 21)},
		{api.Transform{Turn: 1, Scale: 1}, r, rect(-10, 2, 7, 5)},
		{api.Transform{Turn: 2, Scale: 1}, r, rect(-7, -10, 5, 7)},
		{api.Transform{Turn: 3, Scale: 1}, r, rect(3, -7, 7, 5)},
		{api.Transform{Mirror: true, Scale: 1}, r, rect(-7, 3, 5, 7)},
		{api.Transform{Mirror: true, Turn: 1, Scale: 1}, r, rect(-10, -7, 7, 5)},
		{api.Transform{Mirror: true, Turn: 1, Scale: 2, DX: 100, DY: 200}, r, rect(80, 186, 14, 10)},
		{api.Transform{Turn: 1, Scale: 2}, rect(4, 5, 0, 3), rect(-16, 8, 6, 0)},
		{api.Transform{Scale: api.MaxScale, DX: most, DY: -most}, rect(most, -most, most, most), rect(17*most, -17*most, 16*most, 16*most)},
	}
	for _, x := range tests {
		if got := Apply(x.t, x.r); got != x.want {
			t.Errorf("P2.3: Apply(%v, %v) = %v, want %v", x.t, x.r, got, x.want)
		}
	}
	for _, x := range transforms() {
		for _, r := range small() {
			if got, want := Apply(x, r), covered(x, r); got != want {
				t.Errorf("P2.3: Apply(%v, %v) = %v, want %v", x, r, got, want)
			}
		}
	}
}

func TestApplyInvalid(t *testing.T) {
	for _, x := range wrong() {
		if got := Apply(x, rect(1, 2, 3, 4)); got != (api.Rect{}) {
			t.Errorf("P2.3: Apply(%v, a rectangle) = %v", x, got)
		}
	}
	for _, r := range invalid() {
		if got := Apply(api.Transform{Scale: 1, DX: 5}, r); got != (api.Rect{}) {
			t.Errorf("P2.3: Apply(a transform, %v) = %v", r, got)
		}
	}
}

// TestBack looks for the one pixel whose image contains a point.
func TestBack(t *testing.T) {
	for _, x := range transforms() {
		found := map[api.Point]api.Point{}
		for qx := -30; qx <= 30; qx++ {
			for qy := -30; qy <= 30; qy++ {
				r := covered(x, rect(qx, qy, 1, 1))
				for px := r.X; px < r.X+r.W; px++ {
					for py := r.Y; py < r.Y+r.H; py++ {
						if q, twice := found[point(px, py)]; twice {
							t.Fatalf("P2.4: the images of %v and %v share a point", q, point(qx, qy))
						}
						found[point(px, py)] = point(qx, qy)
					}
				}
			}
		}
		for px := -12; px <= 12; px++ {
			for py := -12; py <= 12; py++ {
				p := point(px, py)
				want, ok := found[p]
				if got := Back(x, p); got != want || !ok {
					t.Errorf("P2.4: Back(%v, %v) = %v, want %v", x, p, got, want)
				}
			}
		}
	}
}

func TestBackLimits(t *testing.T) {
	turned := api.Transform{Turn: 1, Scale: 1}
	tests := []struct {
		t       api.Transform
		p, want api.Point
	}{
		{turned, point(-1, 1), point(1, 0)},
		{turned, point(0, 0), point(0, -1)},
		{api.Transform{Scale: 1, DX: -most, DY: most}, point(2*most, -2*most), point(3*most, -3*most)},
		{api.Transform{Scale: 1, DX: most, DY: -most, Mirror: true}, point(-2*most, 2*most), point(3*most-1, 3*most)},
		{api.Transform{Scale: api.MaxScale}, point(-1, 15), point(-1, 0)},
		{api.Transform{Scale: api.MaxScale}, point(-16, 16), point(-1, 1)},
		{api.Transform{Scale: api.MaxScale}, point(-17, -33), point(-2, -3)},
		{api.Transform{Turn: 2, Scale: 3}, point(2*most, 2*most), point(-2*most/3-1, -2*most/3-1)},
		{api.Transform{Scale: 1}, point(2*most+1, 5), api.Point{}}, {api.Transform{Scale: 1}, point(5, 2*most+1), api.Point{}},
		{api.Transform{Scale: 1}, point(-2*most-1, 5), api.Point{}}, {api.Transform{Scale: 1}, point(5, -2*most-1), api.Point{}},
		{turned, point(math.MinInt, 5), api.Point{}}, {turned, point(5, math.MaxInt), api.Point{}},
	}
	for _, x := range tests {
		if got := Back(x.t, x.p); got != x.want {
			t.Errorf("P2.4: Back(%v, %v) = %v, want %v", x.t, x.p, got, x.want)
		}
	}
	for _, x := range wrong() {
		if got := Back(x, point(5, 7)); got != (api.Point{}) {
			t.Errorf("P2.4: Back(%v, a point) = %v", x, got)
		}
	}
}

func TestCombine(t *testing.T) {
	r := rect(3, -7, 2, 5)
	for _, a := range transforms() {
		for _, b := range transforms() {
			c, e := Combine(a, b)
			if got, want := Apply(c, r), covered(a, covered(b, r)); got != want || e != api.OK {
				t.Fatalf("P2.5: Combine(%v, %v) = %v, %d maps %v to %v, want %v", a, b, c, e, r, got, want)
			}
			// Pixels beside one another tell turns and mirrorings apart, which the image of one rectangle does not always.
			for _, p := range []api.Rect{rect(0, 0, 1, 1), rect(1, 0, 1, 1), rect(0, 1, 1, 1)} {
				if got, want := Apply(c, p), covered(a, covered(b, p)); got != want {
					t.Fatalf("P2.5: Combine(%v, %v) = %v maps %v to %v, want %v", a, b, c, p, got, want)
				}
			}
		}
	}
}

func TestCombineLimits(t *testing.T) {
	one := api.Transform{Scale: 1}
	tests := []struct {
		a, b, want api.Transform
		err        api.Errno
	}{
		{one, one, one, api.OK},
		{api.Transform{Turn: 3, Scale: 2, DX: 5}, api.Transform{Turn: 2, Scale: 3, DX: 10, DY: 20}, api.Transform{Turn: 1, Scale: 6, DX: 45, DY: -20}, api.OK},
		{api.Transform{Mirror: true, Scale: 1}, api.Transform{Turn: 1, Scale: 1, DX: 7, DY: 9}, api.Transform{Turn: 3, Mirror: true, Scale: 1, DX: -7, DY: 9}, api.OK},
		{api.Transform{Mirror: true, Scale: 1}, api.Transform{Mirror: true, Scale: 1}, one, api.OK},
		{api.Transform{Scale: 4}, api.Transform{Scale: 4}, api.Transform{Scale: 16}, api.OK},
		{api.Transform{Scale: api.MaxScale}, one, api.Transform{Scale: api.MaxScale}, api.OK},
		{api.Transform{Scale: 17}, one, api.Transform{}, api.ErrRange}, {api.Transform{Scale: 9}, api.Transform{Scale: 2}, api.Transform{}, api.ErrRange},
		{api.Transform{Scale: api.MaxScale}, api.Transform{Scale: api.MaxScale}, api.Transform{}, api.ErrRange},
		{api.Transform{Scale: 1, DX: most - 1, DY: -most}, api.Transform{Scale: 1, DX: 1}, api.Transform{Scale: 1, DX: most, DY: -most}, api.OK},
		{api.Transform{Scale: 1, DX: most - 1}, api.Transform{Scale: 1, DX: 2}, api.Transform{}, api.ErrRange},
		{api.Transform{Scale: 1, DY: -most}, api.Transform{Scale: 1, DY: -1}, api.Transform{}, api.ErrRange},
		{api.Transform{Scale: 2}, api.Transform{Scale: 1, DY: most / 2}, api.Transform{Scale: 2, DY: most}, api.OK},
		{api.Transform{Scale: 2}, api.Transform{Scale: 1, DY: most/2 + 1}, api.Transform{}, api.ErrRange},
		{api.Transform{Turn: 1, Scale: 2}, api.Transform{Scale: 1, DY: most/2 + 1}, api.Transform{}, api.ErrRange},
		{api.Transform{Scale: 1, DX: -most}, api.Transform{Scale: 1, DX: most}, one, api.OK},
	}
	for _, x := range tests {
		if got, e := Combine(x.a, x.b); got != x.want || e != x.err {
			t.Errorf("P2.5: Combine(%v, %v) = %v, %d, want %v, %d", x.a, x.b, got, e, x.want, x.err)
		}
	}
	for _, x := range wrong() {
		if got, e := Combine(x, one); got != (api.Transform{}) || e != api.ErrRange {
			t.Errorf("P2.5: Combine(%v, one) = %v, %d", x, got, e)
		}
		if got, e := Combine(one, x); got != (api.Transform{}) || e != api.ErrRange {
			t.Errorf("P2.5: Combine(one, %v) = %v, %d", x, got, e)
		}
	}
	// Numbers that are not valid must not cancel each other out.
	if got, e := Combine(api.Transform{Scale: 1, DX: most + 1}, api.Transform{Scale: 1, DX: -most - 1}); got != (api.Transform{}) || e != api.ErrRange {
		t.Errorf("P2.5: Combine of opposite movements out of range = %v, %d", got, e)
	}
	if got, e := Combine(api.Transform{Scale: -1}, api.Transform{Scale: -1}); got != (api.Transform{}) || e != api.ErrRange {
		t.Errorf("P2.5: Combine of negative scales = %v, %d", got, e)
	}
}
