package reconcile

import (
	"maps"
	"slices"

	"widgetry/api"
	"widgetry/copies"
	"widgetry/view"
)

// editor changes a tree. The attributes and actions of its nodes belong to arguments, their lists of children do not.
type editor struct {
	root  int // 0 while there is none
	next  int
	nodes map[int]*api.Node
}

func newEditor(t api.Tree) *editor {
	x := &editor{root: t.Root, next: t.Next, nodes: map[int]*api.Node{}}
	for _, n := range t.Nodes {
		n.Kids = slices.Clone(n.Kids)
		x.nodes[n.ID] = &n
	}
	return x
}

// fault returns what is wrong with a change.
func (x *editor) fault(c api.Change) api.Errno {
	insert := c.Kind == api.ChangeInsert
	switch {
	case c.Kind < api.ChangeRemove || c.Kind > api.ChangeUpdate:
		return api.ErrKind
	case insert && !x.isPlace(c.Parent, c.Before) || !insert && x.isMissing(c):
		return api.ErrMissing
	case insert && (x.nodes[c.ID] != nil || c.Parent == 0 && x.root != 0):
		return api.ErrDuplicate
	case insert && (c.ID < 1 || c.ID >= api.MaxNumber):
		return api.ErrRange
	}
	return api.OK
}

// isMissing reports whether a change names a node, or a place for it, that does not exist.
func (x *editor) isMissing(c api.Change) bool {
	n := x.nodes[c.ID]
	if n == nil || c.Kind != api.ChangeMove {
		return n == nil
	}
	return n.ID == x.root || n.ID == c.Before || !x.isPlace(n.Parent, c.Before)
}

// isPlace reports whether a parent, or 0, exists and before is 0 or one of its children.
func (x *editor) isPlace(parent, before int) bool {
	if parent == 0 {
		return before == 0
	}
	n := x.nodes[before]
	return x.nodes[parent] != nil && (before == 0 || n != nil && n.Parent == parent)
}

// perform makes a change that is not wrong.
func (x *editor) perform(c api.Change) {
	switch c.Kind {
	case api.ChangeRemove:
		x.detach(c.ID)
		x.remove(c.ID)
	case api.ChangeInsert:
		x.nodes[c.ID] = &api.Node{ID: c.ID, Parent: c.Parent, Kind: c.View, Key: c.Key, Attrs: c.Attrs, Actions: c.Actions}
		x.next = max(x.next, c.ID+1)
		x.attach(c.ID, c.Before)
	case api.ChangeMove:
		x.detach(c.ID)
		x.attach(c.ID, c.Before)
	case api.ChangeUpdate:
		x.nodes[c.ID].Attrs, x.nodes[c.ID].Actions = c.Attrs, c.Actions
	}
}

// detach takes a node away from the children of its parent.
func (x *editor) detach(id int) {
	if id == x.root {
		x.root = 0
		return
	}
	p := x.nodes[x.nodes[id].Parent]
	at := slices.Index(p.Kids, id)
	p.Kids = slices.Delete(p.Kids, at, at+1)
}

// attach adds a node to the children of its parent, or makes it the root.
func (x *editor) attach(id, before int) {
	p := x.nodes[x.nodes[id].Parent]
	if p == nil {
		x.root = id
		return
	}
	at := len(p.Kids)
	if before != 0 {
		at = slices.Index(p.Kids, before)
	}
	p.Kids = slices.Insert(p.Kids, at, id)
}

// remove deletes a node and its descendants. They may be nested so deeply that it does not call itself.
func (x *editor) remove(id int) {
	for l := []int{id}; len(l) > 0; {
		last := l[len(l)-1]
		l = append(l[:len(l)-1], x.nodes[last].Kids...)
		delete(x.nodes, last)
	}
}

// result returns a copy of the tree, or what is wrong with it.
func (x *editor) result() (api.Tree, api.Errno) {
	t := api.Tree{Root: x.root, Next: x.next}
	for _, id := range slices.Sorted(maps.Keys(x.nodes)) {
		t.Nodes = append(t.Nodes, *x.nodes[id])
	}
	if e := view.Check(t); e != api.OK {
		return api.Tree{}, e
	}
	return copies.Tree(t), api.OK
}
