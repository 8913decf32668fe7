package style

import (
	"slices"

	"widgetry/api"
	"widgetry/expr"
	"widgetry/theme"
	"widgetry/view"
)

// The functions of this file that end in Read follow the sentences of chapter 17 one by one. An error ends them by panic.

// when ends a reading with an error if a condition applies.
func when(applies bool, e api.Errno) {
	if applies {
		panic(e)
	}
}

// errorOf returns the error with which a reading ends.
func errorOf(reading func()) (e api.Errno) {
	defer func() {
		if r := recover(); r != nil {
			e = r.(api.Errno)
		}
	}()
	reading()
	return api.OK
}

func inRangeRead(prop, n int) bool {
	for _, x := range rows() {
		if x.prop == prop {
			return n >= x.least && n <= x.most
		}
	}
	return false
}

func validateRead(s api.Sheet) {
	when(len(s.Rules) > 100, api.ErrTooLong)
	for _, r := range s.Rules {
		when(r.Kind < 0 || r.Kind > 13 || r.UnderKind < 0 || r.UnderKind > 13, api.ErrKind)
		when(r.Class != "" && !expr.Name(r.Class) || r.UnderClass != "" && !expr.Name(r.UnderClass), api.ErrName)
		when(r.States < 0 || r.States > 31, api.ErrRange)
		when(len(r.Decls) > 50, api.ErrTooLong)
		for _, d := range r.Decls {
			when(d.Prop < 0 || d.Prop > 21, api.ErrRange)
			switch d.Source {
			case 0:
				when(d.Token != "", api.ErrKind)
				when(!inRangeRead(d.Prop, d.N), api.ErrRange)
			case 1:
				when(d.N != 0, api.ErrKind)
				when(!expr.Name(d.Token), api.ErrName)
			case 2, 3:
				when(d.Token != "" || d.N != 0, api.ErrKind)
			default:
				when(true, api.ErrKind)
			}
			if d.Prop == api.PropDisplay || d.Prop == api.PropVisibility {
				when(slices.Contains(statesRead(r.States), api.StateHovered), api.ErrConflict)
				when(slices.Contains(statesRead(r.States), api.StatePressed), api.ErrConflict)
				when(slices.Contains(statesRead(r.States), api.StateFocused), api.ErrConflict)
			}
		}
	}
}

// statesRead returns the states of a sum.
func statesRead(sum int) []int {
	var l []int
	for i, n := range []int{1, 2, 4, 8, 16} {
		if sum>>i%2 != 0 {
			l = append(l, n)
		}
	}
	return l
}

// ownRead returns the sum of the states of a node.
func ownRead(st []api.NodeStates, id int) int {
	i := slices.IndexFunc(st, func(x api.NodeStates) bool { return x.ID == id })
	if i < 0 {
		return 0
	}
	return st[i].States
}

func matchesRead(r api.Rule, t api.Tree, st []api.NodeStates, id int) bool {
	path := view.Path(t, id)
	if view.Check(t) != api.OK || len(path) == 0 {
		return false
	}
	is := func(id, kind int, class string) bool {
		n, _ := view.Find(t, id)
		return (kind == 0 || n.Kind == kind) && (class == "" || view.Text(n.Attrs, "class") == class)
	}
	if !is(id, r.Kind, r.Class) {
		return false
	}
	for _, state := range statesRead(r.States) {
		if !slices.Contains(statesRead(ownRead(st, id)), state) {
			return false
		}
	}
	if r.UnderKind == 0 && r.UnderClass == "" {
		return true
	}
	return slices.ContainsFunc(path[:len(path)-1], func(id int) bool { return is(id, r.UnderKind, r.UnderClass) })
}

// rankRead is by what declarations are compared.
func rankRead(r api.Rule, rule, decl int) []int {
	count := func(conditions ...bool) int {
		n := 0
		for _, c := range conditions {
			if c {
				n++
			}
		}
		return n
	}
	return []int{count(r.Class != "", r.UnderClass != "") + len(statesRead(r.States)), count(r.Kind != 0, r.UnderKind != 0), rule, decl}
}

// tokenRead returns the value of a token, and whether it makes a declaration effective.
func tokenRead(d api.Decl, th api.Theme, m api.Mode) (int, bool) {
	n, ok := theme.Lookup(th, m, d.Token)
	return n, ok && inRangeRead(d.Prop, n)
}

// countingRead returns the declaration of a property that counts for a node, if there is one.
func countingRead(s api.Sheet, th api.Theme, m api.Mode, t api.Tree, st []api.NodeStates, id, prop int) (counting api.Decl, ok bool) {
	var greatest []int
	for i, r := range s.Rules {
		for j, d := range r.Decls {
			_, effective := tokenRead(d, th, m)
			if d.Prop != prop || d.Source == api.DeclToken && !effective {
				continue
			}
			if rank := rankRead(r, i, j); slices.Compare(rank, greatest) > 0 && matchesRead(r, t, st, id) {
				counting, ok, greatest = d, true, rank
			}
		}
	}
	return counting, ok
}

func cascadeRead(s api.Sheet, th api.Theme, m api.Mode, t api.Tree, st []api.NodeStates) []api.Styled {
	validateRead(s)
	when(theme.Validate(th) != api.OK, theme.Validate(th))
	when(m.Scale < 50 || m.Scale > 400, api.ErrRange)
	when(view.Check(t) != api.OK, view.Check(t))
	styles := map[int]api.Style{}
	for _, id := range view.Order(t) {
		n, _ := view.Find(t, id)
		var style api.Style
		for _, x := range rows() {
			d, ok := countingRead(s, th, m, t, st, id, x.prop)
			value, fromParent := x.initial, false
			switch {
			case ok && d.Source == api.DeclLiteral:
				value = d.N
			case ok && d.Source == api.DeclToken:
				value, _ = tokenRead(d, th, m)
			case (ok && d.Source == api.DeclInherit || !ok && x.inherited) && id != t.Root:
				value, fromParent = styles[n.Parent][x.prop], true
			}
			if x.prop == api.PropFontSize && !fromParent {
				value = theme.Size(m, value)
			}
			style[x.prop] = value
		}
		styles[id] = style
	}
	var l []api.Styled
	for _, n := range t.Nodes {
		l = append(l, api.Styled{ID: n.ID, Style: styles[n.ID]})
	}
	return l
}

func restyleRead(s api.Sheet, th api.Theme, m api.Mode, old api.Tree, oldStates []api.NodeStates, oldStyles []api.Styled, t api.Tree, st []api.NodeStates) ([]api.Styled, int) {
	l := cascadeRead(s, th, m, t, st)
	when(len(oldStyles) != len(old.Nodes), api.ErrState)
	for i, x := range oldStyles {
		when(x.ID != old.Nodes[i].ID, api.ErrState)
	}
	when(view.Check(old) != api.OK, api.ErrState)
	reused := map[int]bool{}
	for _, id := range view.Order(t) {
		a, ok := view.Find(old, id)
		b, _ := view.Find(t, id)
		ok = ok && a.Kind == b.Kind && view.Text(a.Attrs, "class") == view.Text(b.Attrs, "class") && ownRead(oldStates, id) == ownRead(st, id)
		reused[id] = ok && (id == old.Root && id == t.Root || id != old.Root && id != t.Root && a.Parent == b.Parent && reused[a.Parent])
	}
	count := 0
	for _, is := range reused {
		if !is {
			count++
		}
	}
	return l, count
}

func fromAttrsRead(t api.Tree) []api.NodeStates {
	if view.Check(t) != api.OK {
		return nil
	}
	var l []api.NodeStates
	for _, n := range t.Nodes {
		switch disabled, checked := view.Flag(n.Attrs, "disabled"), view.Flag(n.Attrs, "checked"); {
		case disabled && checked:
			l = append(l, api.NodeStates{ID: n.ID, States: 24})
		case disabled:
			l = append(l, api.NodeStates{ID: n.ID, States: 8})
		case checked:
			l = append(l, api.NodeStates{ID: n.ID, States: 16})
		}
	}
	return l
}
