package layout

import (
	"fmt"
	"math"
	"testing"

	"widgetry/api"
	"widgetry/view"
)

// endless returns values that contain themselves.
func endless(n int) api.Value {
	l := make([]api.Value, n)
	for i := range l {
		l[i] = api.Value{Kind: api.ValueList, L: l}
	}
	return l[0]
}

// TestEndless passes nodes with values that contain themselves (R1).
func TestEndless(t *testing.T) {
	for _, n := range []int{1, 4, 1000} {
		for _, name := range []string{"above", "columns", "hidden", "spans", "text", "width"} {
			w := column(nil, label("ab", nil)).world(t)
			w.t.Nodes[1].Attrs = []api.Attr{{Name: name, Value: endless(n)}}
			e := view.Check(w.t)
			if l, f := Compute(w.t, w.st, w.fonts, api.Size{W: 9, H: 9}); e == api.OK || f != e || len(l) > 0 {
				t.Errorf("P21.1: Compute of a value that contains itself = %v, %d, want %d", l, f, e)
			}
			if a, b, h := Least(w.t, w.st, w.fonts, 2), Most(w.t, w.st, w.fonts, 2), Height(w.t, w.st, w.fonts, 2, 9); a != 0 || b != 0 || h != 0 {
				t.Errorf("P21.1: the extents of a value that contains itself are %d, %d, %d", a, b, h)
			}
			if l := Shown(w.t, w.st); len(l) > 0 {
				t.Errorf("P21.2: Shown of a value that contains itself = %v", l)
			}
			if p := Paragraph(w.t.Nodes[1], w.st[1].Style, 1, 9); !sameParagraph(p, api.Paragraph{Spans: []api.Span{{Size: 10}}, Width: 9}) {
				t.Errorf("P21.3: the paragraph of a value that contains itself is %+v", p)
			}
		}
	}
}

// TestStrangeTrees passes trees with circles and numbers far beyond the limits (R1).
func TestStrangeTrees(t *testing.T) {
	strange := []int{math.MinInt, -1, 0, 1, 2, 3, 1 << 40, math.MaxInt}
	for _, a := range strange {
		for _, b := range strange {
			for _, c := range strange {
				for _, tree := range []api.Tree{
					{Root: a, Next: c, Nodes: []api.Node{{ID: a, Parent: b, Kind: 1}}},
					{Root: a, Next: c, Nodes: []api.Node{{ID: a, Kind: 1, Kids: []int{b}}, {ID: b, Parent: a, Kind: 1}}},
					{Root: 1, Next: 4, Nodes: []api.Node{{ID: 1, Parent: a, Kind: 1, Kids: []int{b}}, {ID: 2, Parent: c, Kind: 1, Kids: []int{1}}}},
				} {
					w := world{t: tree, fonts: []api.Font{square}}
					for _, n := range tree.Nodes {
						w.st = append(w.st, api.Styled{ID: n.ID, Style: initial(nil)})
					}
					testWorld(t, w, api.Size{W: 9, H: 9}, a, b)
					testBoxes(t, tree, []api.Box{{ID: a, Rect: rect(b, c, 1, 1)}, {ID: b, Rect: rect(1, 1, 1, 1)}})
				}
			}
		}
	}
	for _, w := range []world{{}, {t: api.Tree{Root: 1, Next: 2}}, {st: make([]api.Styled, 3), fonts: make([]api.Font, 3)}} {
		testWorld(t, w, api.Size{}, 0)
		testBoxes(t, w.t, make([]api.Box, 3))
	}
}

// testBoxes compares Absolute with the sum of the rectangles on the path to each node.
func testBoxes(t *testing.T, tree api.Tree, l []api.Box) {
	t.Helper()
	for _, id := range idsOf(tree) {
		want, ok := api.Rect{}, false
		for _, above := range view.Path(tree, id) {
			ok = false
			for i := len(l) - 1; i >= 0; i-- {
				if b := l[i]; b.ID == above {
					ok = true
					want.W, want.H = b.Rect.W, b.Rect.H
				}
			}
			if !ok {
				break
			}
			r := boxOf(l, above).Rect
			want.X, want.Y = want.X+r.X, want.Y+r.Y
		}
		if !ok {
			want = api.Rect{}
		}
		if got := Absolute(tree, l, id); got != want {
			t.Fatalf("P21.9: Absolute of %d in %+v with %+v = %v, want %v", id, tree, l, got, want)
		}
	}
}

// TestStrangeNodes passes nodes to Paragraph that are in no tree.
func TestStrangeNodes(t *testing.T) {
	strange := []int{math.MinInt, -1, 0, 1, 2, math.MaxInt}
	for _, a := range strange {
		for _, b := range strange {
			for _, c := range strange {
				n := textNode("ab", list(numbers(0, a, b, c), numbers(a, 2, 0, 5)))
				n.Kind = a
				if p := Paragraph(n, initial(nil), 2, b); !sameParagraph(p, paragraphRead(n, initial(nil), 2, b)) {
					t.Errorf("P21.3: Paragraph of %+v = %+v", n, p)
				}
			}
		}
	}
}

// TestArguments compares the arguments with what they were before the calls (R2).
func TestArguments(t *testing.T) {
	for seed := range uint64(200) {
		m := newMaker(3000000+seed, seed%2 == 0)
		w := m.world(t, m.IntN(12), 5)
		before, size := fmt.Sprintf("%#v", w), m.size()
		boxes, _ := Compute(w.t, w.st, w.fonts, size)
		kept := fmt.Sprintf("%#v", boxes)
		for _, id := range idsOf(w.t) {
			Least(w.t, w.st, w.fonts, id)
			Most(w.t, w.st, w.fonts, id)
			Height(w.t, w.st, w.fonts, id, 50)
			Absolute(w.t, boxes, id)
		}
		Shown(w.t, w.st)
		Compute(w.t, w.st, w.fonts, size)
		for i, n := range w.t.Nodes {
			Paragraph(n, w.st[i].Style, len(w.fonts), 9)
		}
		if after := fmt.Sprintf("%#v", w); after != before {
			t.Fatalf("R2: %s has become %s", before, after)
		}
		if after := fmt.Sprintf("%#v", boxes); after != kept {
			t.Fatalf("R2: the boxes %s have become %s", kept, after)
		}
	}
}
