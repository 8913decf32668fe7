package reconcile

import (
	"fmt"
	"slices"

	"widgetry/api"
	"widgetry/view"
)

// The functions of this file that end in Read follow the sentences of chapter 15 one by one. An error ends them by panic.

// when ends a reading with an error if a condition applies.
func when(applies bool, e api.Errno) {
	if applies {
		panic(e)
	}
}

// errorOf returns the error with which a reading ends.
func errorOf(reading func()) (e api.Errno) {
	defer func() {
		if r := recover(); r != nil {
			e = r.(api.Errno)
		}
	}()
	reading()
	return api.OK
}

// member is a view with its place: names contains, for each view from the root to it, what a view must have in common with a node that it matches. Two members match if their names are equal.
type member struct {
	id     int // of a node, or that the view gets
	name   string
	parent string // the name of the parent
	view   api.View
	kids   []int // the indices of its children in the list of members
}

// members returns a view and the views inside it in preorder. The IDs are in preorder, too; without IDs they are 0.
func members(v api.View, ids []int) []*member {
	var l []*member
	var visit func(v api.View, name, parent string) int
	visit = func(v api.View, name, parent string) int {
		m, at := &member{name: name, parent: parent, view: v}, len(l)
		if ids != nil {
			m.id = ids[at]
		}
		l = append(l, m)
		for i, k := range v.Kids {
			part := fmt.Sprint(k.Kind, " ", k.Key)
			if k.Key == "" {
				number := 0
				for _, other := range v.Kids[:i] {
					if other.Key == "" && other.Kind == k.Kind {
						number++
					}
				}
				part = fmt.Sprint(k.Kind, " #", number)
			}
			m.kids = append(m.kids, visit(k, name+"/"+part, name))
		}
		return at
	}
	visit(v, fmt.Sprint(v.Kind, " ", v.Key), "")
	return l
}

// named returns the member with a name.
func named(l []*member, name string) *member {
	for _, m := range l {
		if m.name == name {
			return m
		}
	}
	return nil
}

func diffRead(t api.Tree, v api.View) []api.Change {
	when(view.Check(t) != api.OK, view.Check(t))
	when(view.Validate(v) != api.OK, view.Validate(v))
	when(t.Next > 1<<40-400, api.ErrRange)
	described, _ := view.Describe(t)
	old, new := members(described, view.Order(t)), members(v, nil)
	var l []api.Change
	for _, m := range old {
		if named(new, m.name) == nil && (m.parent == "" || named(new, m.parent) != nil) {
			l = append(l, remove(m.id))
		}
	}
	next := t.Next
	if m := named(old, new[0].name); m == nil {
		l = append(l, insert(next, 0, 0, v))
		new[0].id, next = next, next+1
	}
	for _, m := range new {
		if node := named(old, m.name); node != nil {
			m.id = node.id
		}
	}
	for _, m := range new {
		node := named(old, m.name)
		if node != nil && (show(node.view.Attrs) != show(m.view.Attrs) || show(node.view.Actions) != show(m.view.Actions)) {
			l = append(l, update(m.id, m.view))
		}
		// The old positions, and the names of the children that have them.
		var positions []int
		var matched []string
		for _, k := range m.kids {
			if kid := named(old, new[k].name); kid != nil {
				positions = append(positions, slices.IndexFunc(node.kids, func(i int) bool { return old[i] == kid }))
				matched = append(matched, kid.name)
			}
		}
		var stay []string
		for _, i := range Kept(positions) {
			stay = append(stay, matched[i])
		}
		before := 0
		for _, i := range slices.Backward(m.kids) {
			k := new[i]
			switch {
			case !slices.Contains(matched, k.name):
				k.id = next
				l = append(l, insert(next, m.id, before, k.view))
				next++
			case !slices.Contains(stay, k.name):
				l = append(l, move(k.id, before))
			}
			before = k.id
		}
	}
	return l
}

// applyRead keeps the nodes in a list.
func applyRead(t api.Tree, l []api.Change) api.Tree {
	when(view.Check(t) != api.OK, view.Check(t))
	r := api.Tree{Root: t.Root, Next: t.Next}
	for _, n := range t.Nodes {
		n.Kids = slices.Clone(n.Kids)
		r.Nodes = append(r.Nodes, n)
	}
	at := func(id int) int { return slices.IndexFunc(r.Nodes, func(n api.Node) bool { return n.ID == id }) }
	for _, c := range l {
		when(c.Kind != 1 && c.Kind != 2 && c.Kind != 3 && c.Kind != 4, api.ErrKind)
		parent := c.Parent
		if c.Kind != api.ChangeInsert {
			when(at(c.ID) < 0, api.ErrMissing)
			parent = r.Nodes[at(c.ID)].Parent
		}
		when(c.Kind == api.ChangeInsert && parent != 0 && at(parent) < 0, api.ErrMissing)
		var siblings []int
		if parent != 0 {
			siblings = r.Nodes[at(parent)].Kids
		}
		if c.Kind == api.ChangeInsert || c.Kind == api.ChangeMove {
			when(c.Before != 0 && !slices.Contains(siblings, c.Before), api.ErrMissing)
		}
		when(c.Kind == api.ChangeMove && (c.Before == c.ID || c.ID == r.Root), api.ErrMissing)
		if c.Kind == api.ChangeInsert {
			when(at(c.ID) >= 0, api.ErrDuplicate)
			when(c.Parent == 0 && r.Root != 0, api.ErrDuplicate)
			when(c.ID < 1 || c.ID > 1<<40-1, api.ErrRange)
			r.Nodes = append(r.Nodes, api.Node{ID: c.ID, Parent: c.Parent, Kind: c.View, Key: c.Key, Attrs: c.Attrs, Actions: c.Actions})
			if r.Next <= c.ID {
				r.Next = c.ID + 1
			}
			if c.Parent == 0 {
				r.Root = c.ID
			}
		}
		if c.Kind == api.ChangeUpdate {
			r.Nodes[at(c.ID)].Attrs, r.Nodes[at(c.ID)].Actions = c.Attrs, c.Actions
			continue
		}
		siblings = slices.DeleteFunc(siblings, func(id int) bool { return id == c.ID })
		if c.Kind != api.ChangeRemove {
			place := len(siblings)
			if c.Before != 0 {
				place = slices.Index(siblings, c.Before)
			}
			siblings = slices.Insert(siblings, place, c.ID)
		}
		if parent != 0 {
			r.Nodes[at(parent)].Kids = siblings
		}
		if c.Kind == api.ChangeRemove {
			removeRead(&r, c.ID)
		}
	}
	slices.SortFunc(r.Nodes, func(a, b api.Node) int { return a.ID - b.ID })
	when(view.Check(r) != api.OK, view.Check(r))
	return r
}

// removeRead removes a node, and then those that have no parent any longer.
func removeRead(t *api.Tree, id int) {
	if t.Root == id {
		t.Root = 0
	}
	gone := []int{id}
	for len(gone) > 0 {
		t.Nodes = slices.DeleteFunc(t.Nodes, func(n api.Node) bool { return slices.Contains(gone, n.ID) })
		var orphans []int
		for _, n := range t.Nodes {
			if slices.Contains(gone, n.Parent) {
				orphans = append(orphans, n.ID)
			}
		}
		gone = orphans
	}
}
