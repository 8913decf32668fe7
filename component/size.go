package component

import "widgetry/api"

// size is what has been counted of a program. Nothing more is counted when it is too large, so that templates that contain themselves have an end.
type size struct {
	parts    int
	tooLarge bool
}

// tooLarge reports whether p has too many parts, or a list that is too long.
func tooLarge(p api.Program) bool {
	var s size
	s.count(len(p.Components))
	for _, c := range p.Components {
		if s.tooLarge {
			return true
		}
		s.component(c)
	}
	return s.tooLarge
}

// count adds parts.
func (s *size) count(parts int) {
	s.parts += parts
	s.tooLarge = s.tooLarge || s.parts > api.MaxParts
}

// limit examines the length of a list.
func (s *size) limit(length int) {
	s.tooLarge = s.tooLarge || length > api.MaxKids
}

func (s *size) component(c api.Component) {
	s.count(len(c.Slots) + len(c.Handlers) + len(c.Effects))
	s.limit(len(c.Params))
	for _, h := range c.Handlers {
		s.limit(len(h.Params))
		s.limit(len(h.Sets))
		s.limit(len(h.Emit))
	}
	for _, f := range c.Effects {
		s.limit(len(f.Deps))
	}
	s.templates(c.Body)
}

func (s *size) templates(l []api.Template) {
	s.count(len(l))
	s.limit(len(l))
	for _, t := range l {
		if s.tooLarge {
			return
		}
		s.count(len(t.Settings) + len(t.Hooks))
		for _, h := range t.Hooks {
			s.limit(len(h.Args))
		}
		s.templates(t.Kids)
	}
}
