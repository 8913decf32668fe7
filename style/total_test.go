package style

import (
	"math"
	"slices"
	"testing"

	"widgetry/api"
)

// endless returns values that contain themselves.
func endless(n int) api.Value {
	l := make([]api.Value, n)
	for i := range l {
		l[i] = api.Value{Kind: api.ValueList, L: l}
	}
	return l[0]
}

// TestEndless passes trees with values that contain themselves (R1).
func TestEndless(t *testing.T) {
	good := family(t)
	styles := styled(t, api.Sheet{}, plain(), nil)
	for _, n := range []int{1, 2, 1000} {
		want := api.ErrDepth
		if n > api.MaxKids {
			want = api.ErrTooLong
		}
		for _, spoil := range []func(n *api.Node){
			func(x *api.Node) { x.Attrs = []api.Attr{{Name: "class", Value: endless(n)}} },
			func(x *api.Node) {
				x.Actions = []api.Action{{Event: "go", Handler: "go", Args: []api.Value{endless(n)}}}
			},
		} {
			bad := family(t)
			spoil(&bad.Nodes[4])
			if _, e := Cascade(api.Sheet{}, api.Theme{}, plain(), bad, nil); e != want {
				t.Errorf("P17.4: Cascade of a value that contains itself: %d, want %d", e, want)
			}
			if _, _, e := Restyle(api.Sheet{}, api.Theme{}, plain(), good, nil, styles, bad, nil); e != want {
				t.Errorf("P17.5: Restyle to a value that contains itself: %d, want %d", e, want)
			}
			if _, _, e := Restyle(api.Sheet{}, api.Theme{}, plain(), bad, nil, styles, good, nil); e != api.ErrState {
				t.Errorf("P17.5: Restyle from a value that contains itself: %d", e)
			}
			if Matches(api.Rule{}, bad, nil, 1) || len(FromAttrs(bad)) > 0 {
				t.Error("P17.3, P17.6: a tree with a value that contains itself is valid")
			}
		}
	}
}

// TestStrangeTrees passes trees with circles and numbers far beyond the limits (R1).
func TestStrangeTrees(t *testing.T) {
	strange := []int{math.MinInt, -1, 0, 1, 2, 3, 1 << 40, math.MaxInt}
	for _, a := range strange {
		for _, b := range strange {
			for _, c := range strange {
				for _, tree := range []api.Tree{
					{Root: a, Next: c, Nodes: []api.Node{{ID: a, Parent: b, Kind: 1}}},
					{Root: a, Next: c, Nodes: []api.Node{{ID: a, Kind: 1, Kids: []int{b}}, {ID: b, Parent: a, Kind: 1}}},
					{Root: 1, Next: 4, Nodes: []api.Node{{ID: 1, Parent: a, Kind: 1, Kids: []int{b}}, {ID: 2, Parent: c, Kind: 1, Kids: []int{1}}}},
				} {
					testTree(t, tree)
				}
			}
		}
	}
}

// testTree compares the functions with their readings.
func testTree(t *testing.T, tree api.Tree) {
	t.Helper()
	st := []api.NodeStates{{ID: math.MaxInt, States: math.MinInt}, {ID: 1, States: -1}, {ID: math.MinInt, States: 31}}
	r := api.Rule{States: 3, Decls: []api.Decl{literal(api.PropGap, 9)}}
	var want []api.Styled
	e := errorOf(func() { want = cascadeRead(sheetOf(r), paper(), plain(), tree, st) })
	got, f := Cascade(sheetOf(r), paper(), plain(), tree, st)
	if f != e || !slices.Equal(got, want) {
		t.Fatalf("P17.4: Cascade of %s = %v, %d, want %v, %d", show(tree), got, f, want, e)
	}
	other := e
	if e == api.OK {
		other = api.ErrState
	}
	if l, n, f := Restyle(sheetOf(r), paper(), plain(), tree, st, nil, tree, st); f != other || n != 0 || len(l) > 0 {
		t.Fatalf("P17.5: Restyle of %s = %v, %d, %d, want %d", show(tree), l, n, f, other)
	}
	for _, x := range tree.Nodes {
		if got := Matches(api.Rule{States: 3, UnderKind: 1}, tree, st, x.ID); got != matchesRead(api.Rule{States: 3, UnderKind: 1}, tree, st, x.ID) {
			t.Fatalf("P17.3: Matches of %s and %d = %t", show(tree), x.ID, got)
		}
	}
	if len(FromAttrs(tree)) > 0 {
		t.Fatalf("P17.6: FromAttrs of %s", show(tree))
	}
}

// TestMemory changes results and compares later ones (R2).
func TestMemory(t *testing.T) {
	s, tree := sheetOf(decls(token(api.PropColor, "ink")), api.Rule{Class: "go", Decls: []api.Decl{literal(api.PropGap, 3)}}), family(t)
	tree.Nodes[1].Attrs = append(tree.Nodes[1].Attrs, api.Attr{Name: "disabled", Value: truth(1)})
	first, e := Cascade(s, paper(), plain(), tree, nil)
	if e != api.OK {
		t.Fatalf("P17.4: Cascade: %d", e)
	}
	want := slices.Clone(first)
	again, n, e := Restyle(s, paper(), plain(), tree, nil, first, tree, nil)
	if e != api.OK || n != 0 || !slices.Equal(again, want) {
		t.Fatalf("P17.5: Restyle: %d, %d", n, e)
	}
	clear(again)
	if !slices.Equal(first, want) {
		t.Error("R2: the result of Restyle shares memory with its argument")
	}
	clear(first)
	if l, _ := Cascade(s, paper(), plain(), tree, nil); !slices.Equal(l, want) {
		t.Errorf("R2: Cascade now returns %v", l)
	}
	states := FromAttrs(tree)
	clear(states)
	if l := FromAttrs(tree); len(l) != 1 || l[0] != (api.NodeStates{ID: 2, States: 8}) {
		t.Errorf("R2: FromAttrs now returns %v", l)
	}
	initial := Initial()
	clear(initial[:])
	if Initial()[api.PropFontSize] != 16 {
		t.Error("R2: the initial values have changed")
	}
}
