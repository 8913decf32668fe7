package bidi

import "widgetry/api"

// resolveWeak leaves only the classes L, R, EN, AN and the neutral ones. Each rule is finished before the next one begins.
func (s *sequence) resolveWeak() {
	s.resolveMarks()
	s.resolveArabic()
	s.resolveSeparators()
	s.resolveTerminators()
	s.resolveLatin()
}

// resolveMarks is the rule W1.
func (s *sequence) resolveMarks() {
	before := s.start
	for i, class := range s.classes {
		if class == api.BidiNSM {
			s.classes[i] = before
		}
		before = s.classes[i]
		if initiates(s.given[i]) || s.given[i] == api.BidiPDI {
			before = api.BidiON
		}
	}
}

// resolveArabic is the rules W2 and W3. W3 may go along, because an AL that has become R is remembered.
func (s *sequence) resolveArabic() {
	strong := s.start
	for i, class := range s.classes {
		switch class {
		case api.BidiL, api.BidiR:
			strong = class
		case api.BidiAL:
			strong = class
			s.classes[i] = api.BidiR
		case api.BidiEN:
			if strong == api.BidiAL {
				s.classes[i] = api.BidiAN
			}
		}
	}
}

// resolveSeparators is the rule W4.
func (s *sequence) resolveSeparators() {
	for i := 1; i+1 < len(s.classes); i++ {
		before, class, after := s.classes[i-1], s.classes[i], s.classes[i+1]
		joins := before == api.BidiEN && (class == api.BidiES || class == api.BidiCS) || before == api.BidiAN && class == api.BidiCS
		if joins && before == after {
			s.classes[i] = before
		}
	}
}

// resolveTerminators is the rules W5 and W6.
func (s *sequence) resolveTerminators() {
	for i := 0; i < len(s.classes); {
		switch s.classes[i] {
		case api.BidiET:
			to := s.listEnd(i, func(class int) bool { return class == api.BidiET })
			class := api.BidiON
			if i > 0 && s.classes[i-1] == api.BidiEN || to < len(s.classes) && s.classes[to] == api.BidiEN {
				class = api.BidiEN
			}
			s.fill(i, to, class)
			i = to
		case api.BidiES, api.BidiCS:
			s.classes[i] = api.BidiON
			i++
		default:
			i++
		}
	}
}

// resolveLatin is the rule W7.
func (s *sequence) resolveLatin() {
	strong := s.start
	for i, class := range s.classes {
		switch {
		case class == api.BidiL || class == api.BidiR:
			strong = class
		case class == api.BidiEN && strong == api.BidiL:
			s.classes[i] = api.BidiL
		}
	}
}

// listEnd returns the end of the list of runes that belong to it, from the rune from on.
func (s *sequence) listEnd(from int, belongs func(class int) bool) int {
	to := from
	for to < len(s.classes) && belongs(s.classes[to]) {
		to++
	}
	return to
}

func (s *sequence) fill(from, to, class int) {
	for i := from; i < to; i++ {
		s.classes[i] = class
	}
}
