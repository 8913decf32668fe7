package layout

import (
	"cmp"
	"slices"

	"widgetry/api"
	"widgetry/font"
	"widgetry/style"
	"widgetry/view"
)

// scene is a valid tree with valid styles.
type scene struct {
	elements map[int]*element // by the IDs
	shown    []*element       // in preorder
}

// open returns the scene of the arguments, or what is wrong with them.
func open(t api.Tree, st []api.Styled, fonts []api.Font, size api.Size) (*scene, api.Errno) {
	if e := checkStyles(t, st); e != api.OK {
		return nil, e
	}
	if !isLength(size.W) || !isLength(size.H) {
		return nil, api.ErrRange
	}
	if e := checkFonts(fonts); e != api.OK {
		return nil, e
	}
	s := newScene(t, st, fonts)
	if slices.ContainsFunc(s.shown, (*element).isCrowded) {
		return nil, api.ErrTooLong
	}
	return s, api.OK
}

// find returns a node of the scene of the arguments, and whether they are valid and there is such a node.
func find(t api.Tree, st []api.Styled, fonts []api.Font, id int) (*element, bool) {
	s, e := open(t, st, fonts, api.Size{})
	if e != api.OK {
		return nil, false
	}
	found, ok := s.elements[id]
	return found, ok
}

func checkStyles(t api.Tree, st []api.Styled) api.Errno {
	if e := view.Check(t); e != api.OK {
		return e
	}
	if !slices.EqualFunc(t.Nodes, st, func(n api.Node, s api.Styled) bool { return n.ID == s.ID }) {
		return api.ErrMissing
	}
	for _, s := range st {
		if !inRange(s.Style) {
			return api.ErrRange
		}
	}
	return api.OK
}

func checkFonts(fonts []api.Font) api.Errno {
	if !within(len(fonts), 1, api.MaxFonts) {
		return api.ErrTooLong
	}
	for _, f := range fonts {
		if e := font.Validate(f); e != api.OK {
			return e
		}
	}
	return api.OK
}

// inRange reports whether s has only values that its properties can have.
func inRange(s api.Style) bool {
	for prop, n := range s {
		if !style.InRange(prop, n) {
			return false
		}
	}
	return true
}

// newScene returns the scene of a valid tree, whose nodes have the styles st in their order.
func newScene(t api.Tree, st []api.Styled, fonts []api.Font) *scene {
	s := &scene{elements: map[int]*element{}}
	for i, n := range t.Nodes {
		s.elements[n.ID] = newElement(n, st[i].Style, fonts)
	}
	if root := s.elements[t.Root]; !root.isHidden() {
		s.show(root)
	}
	return s
}

// show finds the descendants of e, which is shown, that are shown, too.
func (s *scene) show(e *element) {
	s.shown = append(s.shown, e)
	if e.isLeaf() {
		return
	}
	for _, id := range e.Kids {
		if kid := s.elements[id]; !kid.isHidden() {
			e.children = append(e.children, kid)
			s.show(kid)
		}
	}
}

// boxes returns the boxes of the shown nodes in ascending order of their IDs. The root has the given size.
func (s *scene) boxes(size api.Size) ([]api.Box, api.Errno) {
	if len(s.shown) == 0 {
		return nil, api.OK
	}
	if root := s.shown[0]; !root.settle(api.Rect{W: size.W, H: size.H}) {
		return nil, api.ErrRange
	}
	var boxes []api.Box
	for _, e := range s.shown {
		boxes = append(boxes, e.box())
	}
	slices.SortFunc(boxes, func(a, b api.Box) int { return cmp.Compare(a.ID, b.ID) })
	return boxes, api.OK
}
