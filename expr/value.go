package expr

import (
	"unicode/utf8"

	"widgetry/api"
)

// inspector counts the values that it has met.
type inspector struct{ met int }

// typeOf returns the type of v, or the error of Check.
func typeOf(v api.Value) (flat, api.Errno) {
	var i inspector
	return i.inspect(v, 0)
}

// inspect returns the type of a value that is within that many lists, or the error of Check.
func (i *inspector) inspect(v api.Value, lists int) (flat, api.Errno) {
	i.met++
	if v.Kind == api.ValueList && lists == api.MaxDepth {
		return flat{}, api.ErrDepth
	}
	if e := i.inspectAlone(v); e != api.OK {
		return flat{}, e
	}
	if v.Kind != api.ValueList {
		return flat{base: v.Kind}, api.OK
	}
	elements := make([]flat, len(v.L))
	for n, x := range v.L {
		t, e := i.inspect(x, lists+1)
		if e != api.OK {
			return flat{}, e
		}
		elements[n] = t
	}
	t, ok := common(elements)
	if !ok {
		return flat{}, api.ErrType
	}
	return t.list(), api.OK
}

// inspectAlone returns what is wrong with a value itself, whatever its elements and its nesting are.
func (i *inspector) inspectAlone(v api.Value) api.Errno {
	if !clean(v) {
		return api.ErrKind
	}
	if v.Kind == api.ValueInt && !isNumber(v.N) || v.Kind == api.ValueBool && !isTruth(v.N) {
		return api.ErrRange
	}
	if len(v.S) > api.MaxString || len(v.L) > api.MaxKids || i.met > api.MaxValues {
		return api.ErrTooLong
	}
	if !utf8.ValidString(v.S) {
		return api.ErrSyntax
	}
	return api.OK
}

// clean reports whether v has one of the kinds, and nothing in the fields that its kind does not use.
func clean(v api.Value) bool {
	switch v.Kind {
	case api.ValueInt, api.ValueBool:
		return v.S == "" && len(v.L) == 0
	case api.ValueText:
		return v.N == 0 && len(v.L) == 0
	case api.ValueList:
		return v.N == 0 && v.S == ""
	}
	return false
}

// isNumber reports whether n can be the N of an int.
func isNumber(n int) bool {
	return -api.MaxNumber <= n && n <= api.MaxNumber
}

// isTruth reports whether n can be the N of a bool.
func isTruth(n int) bool {
	return n == 0 || n == 1
}

// equal compares values, of which a is valid.
func equal(a, b api.Value) bool {
	if a.Kind != b.Kind || a.N != b.N || a.S != b.S || len(a.L) != len(b.L) {
		return false
	}
	for i := range a.L {
		if !equal(a.L[i], b.L[i]) {
			return false
		}
	}
	return true
}

// clone returns a copy of a valid value that shares no memory with it.
func clone(v api.Value) api.Value {
	var l []api.Value
	for _, x := range v.L {
		l = append(l, clone(x))
	}
	v.L = l
	return v
}
