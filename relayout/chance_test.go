package relayout

import (
	"math/rand/v2"
	"slices"
	"testing"

	"widgetry/api"
	"widgetry/reconcile"
	"widgetry/view"
)

// maker makes worlds and changes of them by chance, the same in each run.
type maker struct{ *rand.Rand }

func newMaker(seed uint64) maker { return maker{rand.New(rand.NewPCG(22, seed))} }

func pick[T any](m maker, l ...T) T { return l[m.IntN(len(l))] }

func oneIn(m maker, n int) bool { return m.IntN(n) == 0 }

// attrs returns attributes, of which some have no meaning for the layout.
func (m maker) attrs() []api.Attr {
	var l []api.Attr
	put := func(n int, name string, v api.Value) {
		if oneIn(m, n) {
			l = append(l, attr(name, v))
		}
	}
	put(6, "class", pick(m, words("a"), words("b"), list(), list(num(m.IntN(2)))))
	put(2, "columns", pick(m, list(num(20), num(0)), list(num(-1), num(-1)), num(5)))
	put(2, "height", num(m.IntN(50)))
	put(12, "hidden", truth(m.IntN(2)))
	put(5, "left", words(pick(m, "a", "b")))
	put(5, "spans", list(list(num(0), num(5), num(0), num(5+m.IntN(3)))))
	put(1, "text", words(pick(m, "", "a", "ab", "ab cd", "cd ab", "ab cd ef gh")))
	put(2, "width", num(m.IntN(50)))
	return l
}

// views returns a valid view with n views inside, nested up to that depth.
func (m maker) views(n, depth int) api.View {
	v := api.View{Kind: pick(m, api.KindGroup, api.KindGroup, api.KindItem, api.KindScroll), Attrs: m.attrs()}
	if n == 0 {
		v.Kind = 1 + m.IntN(api.MostKind)
	}
	keys := []string{"a", "b", "c", "d"}
	for n > 0 && depth > 1 {
		inside := m.IntN(n) / 2
		kid := m.views(inside, depth-1)
		if len(keys) > 0 && oneIn(m, 2) {
			kid.Key, keys = keys[0], keys[1:]
		}
		v.Kids = append(v.Kids, kid)
		n -= inside + 1
	}
	return v
}

// inside returns one of the views inside v, or v itself.
func (m maker) inside(v *api.View) *api.View {
	for len(v.Kids) > 0 && !oneIn(m, 3) {
		v = &v.Kids[m.IntN(len(v.Kids))]
	}
	return v
}

// alter changes a part of a view.
func (m maker) alter(v *api.View) {
	x := m.inside(v)
	switch m.IntN(8) {
	case 0:
		m.Shuffle(len(x.Kids), func(i, j int) { x.Kids[i], x.Kids[j] = x.Kids[j], x.Kids[i] })
	case 1:
		if len(x.Kids) > 0 {
			i := m.IntN(len(x.Kids))
			x.Kids = slices.Delete(x.Kids, i, i+1)
		}
	case 2:
		x.Kids = slices.Insert(x.Kids, m.IntN(len(x.Kids)+1), m.views(m.IntN(3), 2))
	case 3, 4, 5:
		x.Attrs = m.attrs()
	case 6:
		x.Kind = 1 + m.IntN(api.MostKind)
	case 7:
		x.Actions = []api.Action{{Event: "press", Handler: "go"}}
	}
}

func (m maker) style() api.Style {
	s := plainStyle()
	put := func(n, prop, value int) {
		if oneIn(m, n) {
			s[prop] = value
		}
	}
	put(20, api.PropDisplay, api.DisplayNone)
	put(1, api.PropDisplay, 1+m.IntN(4))
	put(4, api.PropColor, m.IntN(3))
	put(4, api.PropFontSize, 8+m.IntN(5))
	put(3, api.PropDirection, 1)
	put(2, api.PropAlign, m.IntN(5))
	put(3, api.PropGap, m.IntN(9))
	put(3, api.PropGrow, m.IntN(3))
	put(5, api.PropMaxWidth, 20+m.IntN(50))
	put(5, api.PropPadStart, m.IntN(9))
	return s
}

func (m maker) size() api.Size { return api.Size{W: m.IntN(200), H: m.IntN(200)} }

// restyle gives each node of the tree a style: that from before, unless it is new or chance changes it.
func (m maker) restyle(w *world) {
	former := w.st
	w.st = nil
	for _, n := range w.t.Nodes {
		i := slices.IndexFunc(former, func(s api.Styled) bool { return s.ID == n.ID })
		if i < 0 || oneIn(m, 12) {
			w.st = append(w.st, api.Styled{ID: n.ID, Style: m.style()})
		} else {
			w.st = append(w.st, former[i])
		}
	}
}

// next changes w as an application would.
func (m maker) next(t *testing.T, w *world) {
	t.Helper()
	v, e := view.Describe(w.t)
	if e != api.OK {
		t.Fatalf("P14.3: Describe: %d", e)
	}
	for range m.IntN(4) {
		m.alter(&v)
	}
	// A view that has become too deep or has a key twice changes nothing.
	if changes, e := reconcile.Diff(w.t, v); e == api.OK {
		w.t, _ = reconcile.Apply(w.t, changes)
	}
	m.restyle(w)
	if oneIn(m, 4) {
		w.size = m.size()
	}
	if oneIn(m, 30) {
		w.size.W = pick(m, -1, api.MaxLength, api.MaxLength+1)
	}
}

// TestChance updates layouts of trees made by chance again and again.
func TestChance(t *testing.T) {
	errors, kept, others := map[api.Errno]int{}, 0, 0
	for seed := range uint64(600) {
		m := newMaker(seed)
		w := worldOf(t, m.views(m.IntN(16), 2+m.IntN(4)))
		w.st, w.size = nil, m.size()
		m.restyle(&w)
		l, e := Begin(w.t, w.st, w.fonts, w.size)
		want, wantErr := begun(w)
		if e != wantErr || show(l) != show(want) {
			t.Fatalf("P22.1: Begin of %s = %s, %d, want %s, %d", show(w), show(l), e, show(want), wantErr)
		}
		if e != api.OK {
			continue
		}
		for range 8 {
			m.next(t, &w)
			updated, n, e := testUpdate(t, l, w)
			errors[e]++
			if e != api.OK {
				w.size = l.Size
				continue
			}
			if n == 0 {
				kept++
			}
			if n > 0 && n < len(textsOf(updated)) {
				others++
			}
			l = updated
		}
	}
	if errors[api.OK] < 3000 || errors[api.ErrRange] < 50 || kept < 500 || others < 500 {
		t.Errorf("the worlds made by chance have the errors %v; %d times all texts are kept, %d times some of them", errors, kept, others)
	}
}

// TestWhateverElse changes everything in columns but their texts and widths (P22.3).
func TestWhateverElse(t *testing.T) {
	moved := 0
	for seed := range uint64(300) {
		m := newMaker(1000000 + seed)
		w := worldOf(t, m.views(4+m.IntN(12), 2+m.IntN(4)))
		l := begin(t, w)
		before := show(l.Boxes)
		for i := range w.t.Nodes {
			m.disturb(&w.t.Nodes[i], &w.st[i].Style)
		}
		w.size.H, w.t.Next = m.IntN(300), w.t.Next+m.IntN(3)
		got, n, e := testUpdate(t, l, w)
		if n != 0 || e != api.OK {
			t.Fatalf("P22.3: Update of %s with %s: %d, %d", show(l), show(w), n, e)
		}
		if show(got.Boxes) != before {
			moved++
		}
	}
	if moved < 100 {
		t.Errorf("only %d layouts have other boxes", moved)
	}
}

// disturb changes of a node what neither its own width nor that of a text depends on.
func (m maker) disturb(n *api.Node, s *api.Style) {
	m.Shuffle(len(n.Kids), func(i, j int) { n.Kids[i], n.Kids[j] = n.Kids[j], n.Kids[i] })
	if oneIn(m, 2) {
		n.Actions = []api.Action{{Event: "press", Handler: "go"}}
	}
	// What is hidden stays hidden.
	if isTextRead(n.Kind) || view.Flag(n.Attrs, "hidden") {
		return
	}
	n.Attrs = []api.Attr{attr("class", words("x")), attr("height", num(m.IntN(50)))}
	if oneIn(m, 5) {
		n.Attrs = append(n.Attrs, attr("hidden", truth(1)))
	}
	s[api.PropGap], s[api.PropPadTop], s[api.PropJustify], s[api.PropColor] = m.IntN(9), m.IntN(9), m.IntN(4), m.IntN(9)
}
