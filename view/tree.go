package view

import (
	"cmp"
	"slices"

	"widgetry/api"
	"widgetry/copies"
)

// grow adds the node of v and then those of its children.
func grow(t *api.Tree, v api.View, parent int) {
	at, id := len(t.Nodes), t.Next
	t.Nodes = append(t.Nodes, api.Node{ID: id, Parent: parent, Kind: v.Kind, Key: v.Key, Attrs: copies.Attrs(v.Attrs), Actions: copies.Actions(v.Actions)})
	t.Next++
	for _, k := range v.Kids {
		t.Nodes[at].Kids = append(t.Nodes[at].Kids, t.Next)
		grow(t, k, id)
	}
}

// attribute is Attr, but the value is not a copy.
func attribute(l []api.Attr, name string) (api.Value, bool) {
	for _, a := range l {
		if a.Name == name {
			return a.Value, true
		}
	}
	return api.Value{}, false
}

// outline is what is known of a valid tree; the zero outline is that of no tree. The memory of its nodes and of its view belongs to the tree.
type outline struct {
	nodes []api.Node // in ascending order of their IDs
	order []int      // their IDs in preorder
	view  api.View
}

// examine returns the outline of t, or the error of Check.
func examine(t api.Tree) (outline, api.Errno) {
	if !isNumbered(t) {
		return outline{}, api.ErrState
	}
	o := outline{nodes: t.Nodes}
	root, ok := o.node(t.Root)
	if !ok || root.Parent != 0 || !o.visit(root) || len(o.order) < len(o.nodes) {
		return outline{}, api.ErrState
	}
	o.view = o.describe(root)
	if e := Validate(o.view); e != api.OK {
		return outline{}, e
	}
	return o, api.OK
}

// isNumbered reports whether the numbers of a tree and of its nodes are in range and in order.
func isNumbered(t api.Tree) bool {
	if len(t.Nodes) > api.MaxNodes || t.Next > api.MaxNumber {
		return false
	}
	last := 0
	for _, n := range t.Nodes {
		if n.ID <= last || n.ID >= t.Next {
			return false
		}
		last = n.ID
	}
	return true
}

// node returns the node with that ID, and whether there is one.
func (o outline) node(id int) (api.Node, bool) {
	i, ok := slices.BinarySearchFunc(o.nodes, id, func(n api.Node, id int) int { return cmp.Compare(n.ID, id) })
	if !ok {
		return api.Node{}, false
	}
	return o.nodes[i], true
}

// visit adds a node and its descendants to the order, and reports whether each of them stands once among the children of its parent.
func (o *outline) visit(n api.Node) bool {
	o.order = append(o.order, n.ID)
	for i, id := range n.Kids {
		kid, ok := o.node(id)
		if !ok || kid.Parent != n.ID || slices.Contains(n.Kids[:i], id) || !o.visit(kid) {
			return false
		}
	}
	return true
}

func (o outline) describe(n api.Node) api.View {
	v := api.View{Kind: n.Kind, Key: n.Key, Attrs: n.Attrs, Actions: n.Actions}
	for _, id := range n.Kids {
		kid, _ := o.node(id)
		v.Kids = append(v.Kids, o.describe(kid))
	}
	return v
}

// path returns the nodes from the root to one of them, or none if there is no such node.
func (o outline) path(id int) []api.Node {
	var l []api.Node
	for n, ok := o.node(id); ok; n, ok = o.node(n.Parent) {
		l = append(l, n)
	}
	slices.Reverse(l)
	return l
}

// number returns how many siblings before n, a child of parent, have its kind and, like n, no key.
func (o outline) number(n, parent api.Node) int {
	count := 0
	for _, id := range parent.Kids {
		if id == n.ID {
			break
		}
		if k, _ := o.node(id); k.Kind == n.Kind && k.Key == "" {
			count++
		}
	}
	return count
}
