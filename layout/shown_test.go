package layout

import (
	"slices"
	"testing"

	"widgetry/api"
)

// testShown compares the shown nodes of p, and those that have boxes.
func testShown(t *testing.T, name string, p part, want ...int) {
	t.Helper()
	w := p.world(t)
	if got := Shown(w.t, w.st); !slices.Equal(got, want) {
		t.Errorf("P21.2: %s: Shown = %v, want %v", name, got, want)
	}
	var ids []int
	for _, b := range p.boxes(t, api.Size{W: 500, H: 500}) {
		ids = append(ids, b.ID)
	}
	if !slices.Equal(ids, want) {
		t.Errorf("P21.2: %s: the boxes are those of %v, want %v", name, ids, want)
	}
}

func TestShown(t *testing.T) {
	inner := column(nil, label("a", nil))
	testShown(t, "all", column(nil, inner, row(nil)), 1, 2, 3, 4)
	testShown(t, "hidden", column(nil, inner.with("hidden", truth(1)), row(nil)), 1, 4)
	testShown(t, "not hidden", column(nil, inner.with("hidden", truth(0)), row(nil)), 1, 2, 3, 4)
	testShown(t, "hidden by a number", column(nil, inner.with("hidden", num(1)), row(nil)), 1, 2, 3, 4)
	testShown(t, "no display", column(nil, inner.styled(api.PropDisplay, api.DisplayNone), row(nil)), 1, 4)
	testShown(t, "no display of a scrolling node", column(nil, scroll(props{api.PropDisplay: api.DisplayNone}, inner)), 1)
	testShown(t, "not visible", column(props{api.PropVisibility: 1}, inner.styled(api.PropVisibility, 1)), 1, 2, 3)
	testShown(t, "a hidden root", column(nil, inner).with("hidden", truth(1)))
	testShown(t, "a root without display", column(nil, inner).styled(api.PropDisplay, api.DisplayNone))
	testShown(t, "a hidden text", column(nil, label("a", nil).with("hidden", truth(1)), label("b", nil).styled(api.PropDisplay, api.DisplayNone)), 1)
}

// TestShownKinds gives a node of each kind a child.
func TestShownKinds(t *testing.T) {
	for kind := 1; kind <= api.MostKind; kind++ {
		for display := api.DisplayColumn; display <= api.DisplayPlace; display++ {
			p := column(nil, part{kind: kind, style: props{api.PropDisplay: display}, kids: []part{column(nil, row(nil))}})
			want := []int{1, 2, 3, 4}
			switch kind {
			case api.KindLabel, api.KindField, api.KindLink, api.KindHeading, api.KindImage, api.KindSlider:
				want = want[:2]
			}
			testShown(t, "a kind", p, want...)
		}
	}
}

// TestShownOrder shows a tree whose nodes are not numbered in preorder.
func TestShownOrder(t *testing.T) {
	w := column(nil, row(nil, column(nil)), row(nil)).world(t)
	for i := range w.t.Nodes {
		w.t.Nodes[i].Kind = api.KindGroup
	}
	w.t.Root = 3
	w.t.Nodes[0].Parent, w.t.Nodes[1].Parent, w.t.Nodes[2].Parent, w.t.Nodes[3].Parent = 3, 4, 0, 3
	w.t.Nodes[0].Kids, w.t.Nodes[1].Kids, w.t.Nodes[2].Kids, w.t.Nodes[3].Kids = nil, nil, []int{4, 1}, []int{2}
	if got := Shown(w.t, w.st); !slices.Equal(got, []int{3, 4, 2, 1}) {
		t.Errorf("P21.2: Shown = %v", got)
	}
	l, e := Compute(w.t, w.st, w.fonts, api.Size{W: 5, H: 5})
	if e != api.OK || len(l) != 4 {
		t.Fatalf("P21.9: Compute: %v, %d", l, e)
	}
	for i, b := range l {
		if b.ID != i+1 {
			t.Errorf("P21.9: the boxes are not in the order of the IDs: %v", l)
		}
	}
}
