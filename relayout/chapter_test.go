package relayout

import (
	"testing"

	"widgetry/api"
	"widgetry/expr"
	"widgetry/view"
)

// The functions of this file that end in Read follow the sentences of chapter 22 one by one.

func isTextRead(kind int) bool {
	return kind == api.KindLabel || kind == api.KindField || kind == api.KindLink || kind == api.KindHeading
}

func boxRead(l api.Layout, id int) (api.Box, bool) {
	for _, b := range l.Boxes {
		if b.ID == id {
			return b, true
		}
	}
	return api.Box{}, false
}

func styleRead(l api.Layout, id int) api.Style {
	for _, s := range l.Styles {
		if s.ID == id {
			return s.Style
		}
	}
	return api.Style{}
}

func attrsRead(a, b []api.Attr) bool {
	if len(a) != len(b) {
		return false
	}
	for i := range a {
		if a[i].Name != b[i].Name || !expr.Equal(a[i].Value, b[i].Value) {
			return false
		}
	}
	return true
}

// keptRead reports whether a text with a box in now is kept.
func keptRead(l, now api.Layout, id int) bool {
	old, ok := boxRead(l, id)
	if !ok {
		return false
	}
	is, _ := boxRead(now, id)
	if old.Rect.W != is.Rect.W {
		return false
	}
	a, _ := view.Find(l.Tree, id)
	b, _ := view.Find(now.Tree, id)
	if a.Kind != b.Kind || !attrsRead(a.Attrs, b.Attrs) {
		return false
	}
	x, y := styleRead(l, id), styleRead(now, id)
	for prop := 0; prop < api.PropCount; prop++ {
		if x[prop] != y[prop] {
			return false
		}
	}
	return true
}

// updateRead is P22.2, where w has the fonts of l.
func updateRead(l api.Layout, w world) (api.Layout, int, api.Errno) {
	now, e := begun(w)
	if e != api.OK {
		return api.Layout{}, 0, e
	}
	n := 0
	for _, x := range w.t.Nodes {
		if _, ok := boxRead(now, x.ID); ok && isTextRead(x.Kind) && !keptRead(l, now, x.ID) {
			n++
		}
	}
	return now, n, api.OK
}

// testUpdate compares Update with its reading, and checks the first sentence of P22.3.
func testUpdate(t *testing.T, l api.Layout, w world) (api.Layout, int, api.Errno) {
	t.Helper()
	want, count, wantErr := updateRead(l, w)
	got, n, e := Update(l, w.t, w.st, w.size)
	if n != count || e != wantErr || show(got) != show(want) {
		t.Fatalf("P22.2: Update of %s with %s = %s, %d, %d, want %s, %d, %d", show(l), show(w), show(got), n, e, show(want), count, wantErr)
	}
	if e != api.OK {
		return got, n, e
	}
	again, n, e := Update(got, w.t, w.st, w.size)
	if n != 0 || e != api.OK || show(again) != show(got) {
		t.Fatalf("P22.3: the same again: %s, %d, %d, want %s", show(again), n, e, show(got))
	}
	return got, count, api.OK
}
