package expr

import "widgetry/api"

// flat is a valid type without pointers: that many lists around a type that is no list, or around nothing (0) if the innermost list is known to be empty only.
// The zero flat stands for the type of the elements of an empty list.
type flat struct {
	lists int
	base  int
}

// flatten returns t as a flat type, and whether it is valid.
func flatten(t api.Type) (flat, bool) {
	var f flat
	for t.Kind == api.ValueList {
		f.lists++
		if f.lists > api.MaxDepth || len(t.Of) > 1 {
			return flat{}, false
		}
		if len(t.Of) == 0 {
			return f, true
		}
		t = t.Of[0]
	}
	if len(t.Of) > 0 || t.Kind != api.ValueInt && t.Kind != api.ValueBool && t.Kind != api.ValueText {
		return flat{}, false
	}
	f.base = t.Kind
	return f, true
}

// nested returns the type that f stands for, or the zero type for the zero flat.
func (f flat) nested() api.Type {
	t := api.Type{Kind: f.base}
	for i := range f.lists {
		list := api.Type{Kind: api.ValueList}
		if i > 0 || f.base != 0 {
			list.Of = []api.Type{t}
		}
		t = list
	}
	return t
}

// is reports whether f is the type with that kind, which is not the one of lists.
func (f flat) is(kind int) bool {
	return f == flat{base: kind}
}

func (f flat) isList() bool {
	return f.lists > 0
}

// of is the type of the elements of a list.
func (f flat) of() flat {
	return flat{lists: f.lists - 1, base: f.base}
}

// list is the type of a list with elements of the type f.
func (f flat) list() flat {
	return flat{lists: f.lists + 1, base: f.base}
}

// join returns the common type of a and b, and whether they have one.
func join(a, b flat) (flat, bool) {
	// A list without a known type of elements has a common type with all lists that are nested at least as deeply.
	if a == b || a.base == 0 && a.lists <= b.lists {
		return b, true
	}
	if b.base == 0 && b.lists <= a.lists {
		return a, true
	}
	return flat{}, false
}

// common returns the common type of all types of l, and whether they have one; that of none is the zero flat.
func common(l []flat) (flat, bool) {
	var all flat
	for _, t := range l {
		next, ok := join(all, t)
		if !ok {
			return flat{}, false
		}
		all = next
	}
	return all, true
}
