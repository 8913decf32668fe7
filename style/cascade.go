package style

import (
	"cmp"
	"math/bits"
	"slices"

	"widgetry/api"
	"widgetry/theme"
	"widgetry/view"
)

const (
	leastScale = 50
	mostScale  = 400
)

// fault returns what is wrong with the arguments of a cascade.
func fault(s api.Sheet, th api.Theme, m api.Mode, t api.Tree) api.Errno {
	if e := Validate(s); e != api.OK {
		return e
	}
	if e := theme.Validate(th); e != api.OK {
		return e
	}
	if !within(m.Scale, leastScale, mostScale) {
		return api.ErrRange
	}
	return view.Check(t)
}

// cascade gives the nodes of a tree their styles.
type cascade struct {
	scene
	rules  []api.Rule // the later ones prevail
	mode   api.Mode
	styles map[int]api.Style // of the nodes that already have one
}

func newCascade(s api.Sheet, th api.Theme, m api.Mode, c scene) cascade {
	return cascade{scene: c, rules: ranked(s, th, m), mode: m, styles: map[int]api.Style{}}
}

// ranked returns the rules with their effective declarations only, from the least to the greatest one.
func ranked(s api.Sheet, th api.Theme, m api.Mode) []api.Rule {
	rules := slices.Clone(s.Rules)
	for i, r := range rules {
		rules[i].Decls = effective(r.Decls, th, m)
	}
	// Of equal rules the later one is the greater one, so they have to stay in their order.
	slices.SortStableFunc(rules, func(a, b api.Rule) int {
		return cmp.Or(cmp.Compare(conditions(a), conditions(b)), cmp.Compare(kinds(a), kinds(b)))
	})
	return rules
}

// conditions counts the classes and states that r asks for.
func conditions(r api.Rule) int {
	n := bits.OnesCount(uint(r.States))
	if r.Class != "" {
		n++
	}
	if r.UnderClass != "" {
		n++
	}
	return n
}

// kinds counts the kinds that r asks for.
func kinds(r api.Rule) int {
	n := 0
	if r.Kind != 0 {
		n++
	}
	if r.UnderKind != 0 {
		n++
	}
	return n
}

// effective returns the declarations without those of tokens that have no suitable value; those of other tokens become literals.
func effective(l []api.Decl, th api.Theme, m api.Mode) []api.Decl {
	var kept []api.Decl
	for _, d := range l {
		if d.Source == api.DeclToken {
			n, ok := theme.Lookup(th, m, d.Token)
			if !ok || !InRange(d.Prop, n) {
				continue
			}
			d = api.Decl{Prop: d.Prop, Source: api.DeclLiteral, N: n}
		}
		kept = append(kept, d)
	}
	return kept
}

// all returns the styles of the nodes of t, in their order.
func (c cascade) all(t api.Tree) []api.Styled {
	l := make([]api.Styled, 0, len(t.Nodes))
	for _, n := range t.Nodes {
		l = append(l, api.Styled{ID: n.ID, Style: c.style(n.ID)})
	}
	return l
}

// style returns the style of a node, which is kept because its children ask for it again.
func (c cascade) style(id int) api.Style {
	if s, ok := c.styles[id]; ok {
		return s
	}
	around := c.outside()
	if parent := c.looks[id].parent; parent != 0 {
		around = c.style(parent)
	}
	var s api.Style
	for prop, d := range c.declared(id) {
		s[prop] = c.value(d, around[prop])
	}
	c.styles[id] = s
	return s
}

// outside is what the root inherits: the initial values, at the text scale.
func (c cascade) outside() api.Style {
	s := Initial()
	s[api.PropFontSize] = theme.Size(c.mode, s[api.PropFontSize])
	return s
}

// declared returns for each property the declaration that counts for a node; a property that no rule declares is inherited or initial.
func (c cascade) declared(id int) [api.PropCount]api.Decl {
	var l [api.PropCount]api.Decl
	for prop := range l {
		l[prop] = api.Decl{Prop: prop, Source: api.DeclInitial}
		if Inherited(prop) {
			l[prop].Source = api.DeclInherit
		}
	}
	for _, r := range c.rules {
		if !c.matches(r, id) {
			continue
		}
		for _, d := range r.Decls {
			l[d.Prop] = d
		}
	}
	return l
}

// value returns the value that d gives a node whose parent has the value around.
func (c cascade) value(d api.Decl, around int) int {
	n := d.N
	switch d.Source {
	case api.DeclInherit:
		// The text scale is already in it.
		return around
	case api.DeclInitial:
		n = properties[d.Prop].initial
	}
	if d.Prop == api.PropFontSize {
		return theme.Size(c.mode, n)
	}
	return n
}
