package view

import (
	"fmt"
	"slices"
	"strings"

	"widgetry/api"
	"widgetry/expr"
)

// The functions of this file that end in Read follow the sentences of chapter 14 one by one. An error ends them by panic.

// when ends a reading with an error if a condition applies.
func when(applies bool, e api.Errno) {
	if applies {
		panic(e)
	}
}

// errorOf returns the error with which a reading ends.
func errorOf(reading func()) (e api.Errno) {
	defer func() {
		if r := recover(); r != nil {
			e = r.(api.Errno)
		}
	}()
	reading()
	return api.OK
}

func keyRead(s string) bool {
	other := strings.IndexFunc(s, func(r rune) bool {
		return !strings.ContainsRune("abcdefghijklmnopqrstuvwxyzABCDEFGHIJKLMNOPQRSTUVWXYZ0123456789-_", r)
	})
	return s == "" || len(s) >= 1 && len(s) <= 24 && other < 0
}

// place is where a view stands: the number of views around it, with itself, and of those before it.
type place struct {
	view   api.View
	around int
	before int
}

// places returns all views of a view in the order in which they are examined, as far as they are no more than 17 levels deep.
func places(v api.View, around int, l []place) []place {
	l = append(l, place{v, around, len(l)})
	if around > 16 {
		return l
	}
	for _, k := range v.Kids {
		l = places(k, around+1, l)
	}
	return l
}

func validateRead(v api.View) {
	for _, p := range places(v, 1, nil) {
		v := p.view
		when(p.around > 16, api.ErrDepth)
		when(p.before >= 400, api.ErrTooLong)
		when(v.Kind < 1 || v.Kind > 13, api.ErrKind)
		when(!keyRead(v.Key), api.ErrName)
		when(len(v.Attrs) > 24, api.ErrTooLong)
		when(len(v.Actions) > 24, api.ErrTooLong)
		when(len(v.Kids) > 100, api.ErrTooLong)
		before := ""
		for _, a := range v.Attrs {
			when(!expr.Name(a.Name), api.ErrName)
			when(a.Name <= before, api.ErrOrder)
			when(expr.Check(a.Value) != api.OK, expr.Check(a.Value))
			before = a.Name
		}
		before = ""
		for _, a := range v.Actions {
			when(!expr.Name(a.Event), api.ErrName)
			when(!expr.Name(a.Handler), api.ErrName)
			when(a.Event <= before, api.ErrOrder)
			when(len(a.Instance) > 400, api.ErrTooLong)
			when(len(a.Args) > 100, api.ErrTooLong)
			for _, x := range a.Args {
				when(expr.Check(x) != api.OK, expr.Check(x))
			}
			before = a.Event
		}
		for i, a := range v.Kids {
			for _, b := range v.Kids[i+1:] {
				when(a.Key == b.Key && a.Key != "", api.ErrDuplicate)
			}
		}
	}
}

// nodeRead returns the node with an ID, and how many there are.
func nodeRead(t api.Tree, id int) (node api.Node, count int) {
	for _, n := range t.Nodes {
		if n.ID == id {
			node = n
			count++
		}
	}
	return node, count
}

func checkRead(t api.Tree) api.View {
	when(t.Next < 2 || t.Next > 1<<40, api.ErrState)
	when(len(t.Nodes) < 1 || len(t.Nodes) > 400, api.ErrState)
	for i, n := range t.Nodes {
		when(n.ID < 1 || n.ID >= t.Next, api.ErrState)
		when(i > 0 && n.ID <= t.Nodes[i-1].ID, api.ErrState)
	}
	_, count := nodeRead(t, t.Root)
	when(count != 1, api.ErrState)
	listed := map[int]int{}
	for _, n := range t.Nodes {
		when((n.Parent == 0) != (n.ID == t.Root), api.ErrState)
		parent, count := nodeRead(t, n.Parent)
		when(n.Parent != 0 && count != 1, api.ErrState)
		stands := 0
		for _, k := range parent.Kids {
			if k == n.ID {
				stands++
			}
		}
		when(n.Parent != 0 && stands != 1, api.ErrState)
		for _, k := range n.Kids {
			listed[k]++
		}
	}
	for k, times := range listed {
		n, count := nodeRead(t, k)
		when(count != 1 || n.Parent == 0 || times != 1, api.ErrState)
	}
	for _, n := range t.Nodes {
		// A way up that is longer than the number of nodes is a circle.
		for range t.Nodes {
			if n.ID != t.Root {
				n, _ = nodeRead(t, n.Parent)
			}
		}
		when(n.ID != t.Root, api.ErrState)
	}
	root, _ := nodeRead(t, t.Root)
	v := describeRead(t, root)
	validateRead(v)
	return v
}

func describeRead(t api.Tree, n api.Node) api.View {
	var kids []api.View
	for _, k := range n.Kids {
		kid, _ := nodeRead(t, k)
		kids = append(kids, describeRead(t, kid))
	}
	return api.View{Kind: n.Kind, Key: n.Key, Attrs: n.Attrs, Actions: n.Actions, Kids: kids}
}

func buildRead(v api.View, next int) api.Tree {
	validateRead(v)
	when(next < 1 || next > 1<<40-400, api.ErrRange)
	t := api.Tree{Root: next}
	all := places(v, 1, nil)
	for i, p := range all {
		n := api.Node{ID: next + i, Kind: p.view.Kind, Key: p.view.Key, Attrs: p.view.Attrs, Actions: p.view.Actions}
		for j := i + 1; j < len(all) && all[j].around > p.around; j++ {
			if all[j].around == p.around+1 {
				n.Kids = append(n.Kids, next+j)
			}
		}
		for j := i - 1; j >= 0 && n.Parent == 0; j-- {
			if all[j].around == p.around-1 {
				n.Parent = next + j
			}
		}
		t.Nodes = append(t.Nodes, n)
	}
	t.Next = next + len(all)
	return t
}

// pathsRead returns the paths and the names of all nodes of a valid tree in preorder.
func pathsRead(t api.Tree) (paths [][]int, names []string) {
	var visit func(id int, path []int, name string)
	visit = func(id int, path []int, name string) {
		paths, names = append(paths, append(path[:len(path):len(path)], id)), append(names, name)
		n, _ := nodeRead(t, id)
		unnamed := map[int]int{}
		for _, k := range n.Kids {
			kid, _ := nodeRead(t, k)
			part := "/" + kid.Key
			if kid.Key == "" {
				part = fmt.Sprintf("/#%d.%d", kid.Kind, unnamed[kid.Kind])
				unnamed[kid.Kind]++
			}
			visit(k, paths[slices.IndexFunc(paths, func(l []int) bool { return l[len(l)-1] == id })], name+part)
		}
	}
	root, _ := nodeRead(t, t.Root)
	name := "/" + root.Key
	if root.Key == "" {
		name = fmt.Sprintf("/#%d.0", root.Kind)
	}
	visit(t.Root, nil, name)
	return paths, names
}

// commonRead returns the last ID that both paths contain.
func commonRead(a, b []int) int {
	last := 0
	for _, id := range a {
		if slices.Contains(b, id) {
			last = id
		}
	}
	return last
}

func equalRead(a, b api.View) bool {
	return errorOf(func() { validateRead(a) }) == api.OK && errorOf(func() { validateRead(b) }) == api.OK && show(a) == show(b)
}
