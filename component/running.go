package component

import (
	"slices"

	"widgetry/api"
	"widgetry/copies"
)

// isValid reports whether r can be a running program of p.
func isValid(p api.Program, r api.Running) bool {
	for i, x := range r.Instances {
		if i > 0 && r.Instances[i-1].Path >= x.Path || !isInstance(p, x) {
			return false
		}
	}
	return true
}

// isInstance reports whether x has as many values as a component of p with its name, all of which are valid.
func isInstance(p api.Program, x api.Instance) bool {
	c, ok := componentNamed(p, x.Name)
	if !ok || len(x.Args) != len(c.Params) || len(x.Values) != len(c.Slots) || len(x.Seen) != len(c.Effects) {
		return false
	}
	for i, f := range c.Effects {
		if len(x.Seen[i]) != len(f.Deps) || checkValues(x.Seen[i]) != api.OK {
			return false
		}
	}
	return checkValues(x.Args) == api.OK && checkValues(x.Values) == api.OK
}

// positions returns the indices of the instances of r by their paths.
func positions(r api.Running) map[string]int {
	all := map[string]int{}
	for i, x := range r.Instances {
		all[x.Path] = i
	}
	return all
}

// copyRunning returns a copy of a valid running program that shares no memory with it.
func copyRunning(r api.Running) api.Running {
	copied := api.Running{Instances: slices.Clone(r.Instances)}
	for i, x := range copied.Instances {
		x.Args, x.Values, x.Seen = copies.Values(x.Args), copies.Values(x.Values), slices.Clone(x.Seen)
		for j, l := range x.Seen {
			x.Seen[j] = copies.Values(l)
		}
		copied.Instances[i] = x
	}
	return copied
}
