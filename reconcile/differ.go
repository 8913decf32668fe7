package reconcile

import (
	"slices"

	"widgetry/api"
	"widgetry/copies"
	"widgetry/view"
)

// differ collects the changes of a valid tree.
type differ struct {
	nodes   map[int]api.Node
	next    int
	changes []api.Change
}

func newDiffer(t api.Tree) *differ {
	d := &differ{nodes: map[int]api.Node{}, next: t.Next}
	for _, n := range t.Nodes {
		d.nodes[n.ID] = n
	}
	return d
}

func (d *differ) add(c api.Change) { d.changes = append(d.changes, c) }

// kids returns the children of a node, none for a node that is inserted.
func (d *differ) kids(n api.Node) []api.Node {
	var l []api.Node
	for _, id := range n.Kids {
		l = append(l, d.nodes[id])
	}
	return l
}

// root makes the tree with that root describe v.
func (d *differ) root(n api.Node, v api.View) {
	if match([]api.Node{n}, []api.View{v})[0] < 0 {
		d.remove(n)
		n = d.insert(v, 0, 0)
	} else {
		d.removeOthers(n, v)
	}
	d.adapt(n, v)
}

// removeOthers removes what does not match inside a node that matches v.
func (d *differ) removeOthers(n api.Node, v api.View) {
	kids := d.kids(n)
	positions := match(kids, v.Kids)
	for i, k := range kids {
		if at := slices.Index(positions, i); at < 0 {
			d.remove(k)
		} else {
			d.removeOthers(k, v.Kids[at])
		}
	}
}

func (d *differ) remove(n api.Node) { d.add(api.Change{Kind: api.ChangeRemove, ID: n.ID}) }

// insert returns the new node of v, which has no children yet.
func (d *differ) insert(v api.View, parent, before int) api.Node {
	n := api.Node{ID: d.next, Attrs: v.Attrs, Actions: v.Actions}
	d.next++
	d.add(api.Change{Kind: api.ChangeInsert, ID: n.ID, Parent: parent, Before: before, View: v.Kind, Key: v.Key, Attrs: copies.Attrs(v.Attrs), Actions: copies.Actions(v.Actions)})
	return n
}

// adapt makes n, the node of v, and its descendants describe v; what does not match is already removed.
func (d *differ) adapt(n api.Node, v api.View) {
	// Views without children have the comparison that attributes and actions need.
	old := api.View{Kind: v.Kind, Attrs: n.Attrs, Actions: n.Actions}
	if !view.Equal(old, api.View{Kind: v.Kind, Attrs: v.Attrs, Actions: v.Actions}) {
		d.add(api.Change{Kind: api.ChangeUpdate, ID: n.ID, Attrs: copies.Attrs(v.Attrs), Actions: copies.Actions(v.Actions)})
	}
	for i, k := range d.arrange(n, v) {
		d.adapt(k, v.Kids[i])
	}
}

// arrange gives n, the node of v, the children that v has, and returns their nodes.
func (d *differ) arrange(n api.Node, v api.View) []api.Node {
	kids, positions := d.kids(n), match(d.kids(n), v.Kids)
	stay, before := staying(positions), 0
	nodes := make([]api.Node, len(v.Kids))
	for i, k := range slices.Backward(v.Kids) {
		if at := positions[i]; at < 0 {
			nodes[i] = d.insert(k, n.ID, before)
		} else {
			nodes[i] = kids[at]
			if !stay[i] {
				d.add(api.Change{Kind: api.ChangeMove, ID: kids[at].ID, Before: before})
			}
		}
		before = nodes[i].ID
	}
	return nodes
}
