package component

import (
	"slices"
	"strings"

	"widgetry/api"
	"widgetry/copies"
	"widgetry/expr"
)

// instance is an instance of the present expansion.
type instance struct {
	api.Instance
	component api.Component
	depth     int // how many calls it is in, with its own one
	env       []api.Binding
	known     bool
	before    [][]api.Value  // the former Seen, if it is known
	calls     map[string]int // how often it has called a component without a key, by the path without the number
}

// expansion is one expansion of a program.
type expansion struct {
	program   api.Program
	former    []api.Instance
	positions map[string]int // of the former instances, by their paths
	begun     []*instance    // in the order in which their expansion began
	paths     map[string]bool
	steps     int
	views     int
}

func newExpansion(p api.Program, r api.Running) *expansion {
	return &expansion{program: p, former: r.Instances, positions: positions(r), paths: map[string]bool{}}
}

// expand returns the view of the program; the arguments become a part of its first instance.
func (x *expansion) expand(args []api.Value) (api.View, api.Errno) {
	root, e := x.begin(x.program.Components[0], "/", args, 1)
	if e != api.OK {
		return api.View{}, e
	}
	views, e := x.templates(root.component.Body, place{caller: root, env: root.env}, nil)
	if e != api.OK {
		return api.View{}, e
	}
	if len(views) != 1 {
		return api.View{}, api.ErrKind
	}
	return views[0], api.OK
}

// begin adds an instance with its state. The arguments become a part of it.
func (x *expansion) begin(c api.Component, path string, args []api.Value, depth int) (*instance, api.Errno) {
	i := &instance{Instance: api.Instance{Path: path, Name: c.Name, Args: args}, component: c, depth: depth, calls: map[string]int{}}
	x.begun = append(x.begun, i)
	x.paths[path] = true
	if at, ok := x.positions[path]; ok && x.former[at].Name == c.Name {
		i.known = true
		i.before = x.former[at].Seen
		i.Values = copies.Values(x.former[at].Values)
	} else if e := i.initialize(); e != api.OK {
		return nil, e
	}
	i.env = environment(c, i.Args, i.Values)
	return i, api.OK
}

// initialize gives the slots their first values.
func (i *instance) initialize() api.Errno {
	var inits []api.Expr
	for _, s := range i.component.Slots {
		inits = append(inits, s.Init)
	}
	values, e := evaluateAll(inits, bind(nil, i.component.Params, i.Args))
	i.Values = values
	return e
}

// runEffects returns the values that the effects of all instances emit.
func (x *expansion) runEffects() ([]api.Value, api.Errno) {
	var emitted []api.Value
	for _, i := range x.begun {
		for n, f := range i.component.Effects {
			seen, e := evaluateAll(f.Deps, i.env)
			if e != api.OK {
				return nil, e
			}
			i.Seen = append(i.Seen, seen)
			if i.known && slices.EqualFunc(seen, i.before[n], expr.Equal) {
				continue
			}
			v, e := evaluate(f.Emit, i.env)
			if e != api.OK {
				return nil, e
			}
			emitted = append(emitted, v)
		}
	}
	return emitted, api.OK
}

// running returns the program that runs after the expansion.
func (x *expansion) running() api.Running {
	var r api.Running
	for _, i := range x.begun {
		r.Instances = append(r.Instances, i.Instance)
	}
	slices.SortFunc(r.Instances, func(a, b api.Instance) int { return strings.Compare(a.Path, b.Path) })
	return r
}
