package style

import (
	"slices"

	"widgetry/api"
	"widgetry/view"
)

// look is what rules see of a node.
type look struct {
	parent int
	kind   int
	class  string
	states int
}

// is reports whether a node has the kind, unless that is 0, and the class, unless that is empty.
func (l look) is(kind int, class string) bool {
	return (kind == 0 || l.kind == kind) && (class == "" || l.class == class)
}

// scene is what rules see of a valid tree: its nodes by their IDs.
type scene struct{ looks map[int]look }

func newScene(t api.Tree, st []api.NodeStates) scene {
	states := map[int]int{}
	// The first element with an ID counts, so it is the last one that is visited.
	for _, x := range slices.Backward(st) {
		states[x.ID] = x.States
	}
	looks := make(map[int]look, len(t.Nodes))
	for _, n := range t.Nodes {
		looks[n.ID] = look{parent: n.Parent, kind: n.Kind, class: view.Text(n.Attrs, "class"), states: states[n.ID]}
	}
	return scene{looks}
}

// matches reports whether there is such a node and r applies to it.
func (s scene) matches(r api.Rule, id int) bool {
	l, ok := s.looks[id]
	return ok && l.is(r.Kind, r.Class) && l.states&r.States == r.States && s.isUnder(l, r.UnderKind, r.UnderClass)
}

// isUnder reports whether a node has an ancestor of the kind and the class, unless neither is asked for.
func (s scene) isUnder(l look, kind int, class string) bool {
	if kind == 0 && class == "" {
		return true
	}
	// The parent of the root is no node.
	for l, ok := s.looks[l.parent]; ok; l, ok = s.looks[l.parent] {
		if l.is(kind, class) {
			return true
		}
	}
	return false
}

// repeats reports whether rules see the same of a node, and of the nodes around it, as they saw earlier.
func (s scene) repeats(earlier scene, id int) bool {
	l := s.looks[id]
	before, ok := earlier.looks[id]
	return ok && l == before && (l.parent == 0 || s.repeats(earlier, l.parent))
}
