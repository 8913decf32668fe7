// Package copies copies parts of views and layouts, so that a result shares no memory with an argument.
package copies

import (
	"slices"

	"widgetry/api"
)

// Values returns a copy of l.
func Values(l []api.Value) []api.Value {
	copied := slices.Clone(l)
	for i, v := range copied {
		copied[i] = Value(v)
	}
	return copied
}

// Value returns a copy of v, which need not be valid. The copy of a value that is too large for any result has no elements.
func Value(v api.Value) api.Value {
	if !isFinite(v) {
		v.L = nil
	}
	return elements(v)
}

// Attrs returns a copy of l.
func Attrs(l []api.Attr) []api.Attr {
	copied := slices.Clone(l)
	for i, a := range copied {
		copied[i].Value = Value(a.Value)
	}
	return copied
}

// Actions returns a copy of l.
func Actions(l []api.Action) []api.Action {
	copied := slices.Clone(l)
	for i, a := range copied {
		copied[i].Args = Values(a.Args)
	}
	return copied
}

// Node returns a copy of n.
func Node(n api.Node) api.Node {
	n.Attrs, n.Actions, n.Kids = Attrs(n.Attrs), Actions(n.Actions), slices.Clone(n.Kids)
	return n
}

// Tree returns a copy of t.
func Tree(t api.Tree) api.Tree {
	t.Nodes = slices.Clone(t.Nodes)
	for i, n := range t.Nodes {
		t.Nodes[i] = Node(n)
	}
	return t
}

// Fonts returns a copy of l.
func Fonts(l []api.Font) []api.Font {
	copied := slices.Clone(l)
	for i, f := range copied {
		f.Advances, f.Kerns, f.Ligatures = slices.Clone(f.Advances), slices.Clone(f.Kerns), slices.Clone(f.Ligatures)
		copied[i] = f
	}
	return copied
}

// View returns a copy of a valid view.
func View(v api.View) api.View {
	v.Attrs, v.Actions, v.Kids = Attrs(v.Attrs), Actions(v.Actions), slices.Clone(v.Kids)
	for i, k := range v.Kids {
		v.Kids[i] = View(k)
	}
	return v
}

// elements returns v with copies of its elements.
func elements(v api.Value) api.Value {
	v.L = slices.Clone(v.L)
	for i, x := range v.L {
		v.L[i] = elements(x)
	}
	return v
}
