package bidi

import (
	"slices"

	"widgetry/api"
	"widgetry/char"
)

// mostOpen is the number of brackets that may be open; if there are more of them, all brackets count as other neutral runes.
const mostOpen = 63

// bracketPair is a pair of brackets: their places in the sequence.
type bracketPair struct{ opening, closing int }

// resolveBrackets is the rule N0.
func (s *sequence) resolveBrackets() {
	for _, pair := range s.bracketPairs() {
		if class, ok := s.bracketClass(pair); ok {
			s.setBracket(pair.opening, class)
			s.setBracket(pair.closing, class)
		}
	}
}

// bracketPairs returns the pairs in the order of their opening brackets.
func (s *sequence) bracketPairs() []bracketPair {
	var pairs []bracketPair
	var open []int
	for i, class := range s.classes {
		if class != api.BidiON {
			continue
		}
		switch kind, other := char.Bracket(s.text[i]); kind {
		case api.BracketOpen:
			if len(open) == mostOpen {
				return nil
			}
			open = append(open, i)
		case api.BracketClose:
			for k := len(open) - 1; k >= 0; k-- {
				if s.text[open[k]] == other {
					pairs = append(pairs, bracketPair{open[k], i})
					open = open[:k]
					break
				}
			}
		}
	}
	slices.SortFunc(pairs, func(a, b bracketPair) int { return a.opening - b.opening })
	return pairs
}

// bracketClass returns what the brackets of a pair become; ok is false if they stay neutral.
func (s *sequence) bracketClass(pair bracketPair) (class int, ok bool) {
	along := direction(s.level)
	for i := pair.opening + 1; i < pair.closing; i++ {
		counts, strong := strength(s.classes[i])
		if strong && counts == along {
			return along, true
		}
		ok = ok || strong
	}
	if !ok {
		return 0, false
	}
	// All strong runes between the brackets have the other direction. If the context has it too, so have the brackets;
	// otherwise it has the direction of the level.
	return s.before(pair.opening), true
}

// before returns the last strong class before the place.
func (s *sequence) before(place int) int {
	for i := place - 1; i >= 0; i-- {
		if counts, strong := strength(s.classes[i]); strong {
			return counts
		}
	}
	return s.start
}

// setBracket changes a bracket and the marks on it.
func (s *sequence) setBracket(place, class int) {
	s.classes[place] = class
	for i := place + 1; i < len(s.given) && s.given[i] == api.BidiNSM; i++ {
		s.classes[i] = class
	}
}

// resolveNeutral is the rules N1 and N2.
func (s *sequence) resolveNeutral() {
	for i := 0; i < len(s.classes); {
		to := s.listEnd(i, neutral)
		if to == i {
			i++
			continue
		}
		class := direction(s.level)
		if before := s.before(i); before == s.after(to) {
			class = before
		}
		s.fill(i, to, class)
		i = to
	}
}

// after returns the class of the rune at the place, which is strong, or the end class.
func (s *sequence) after(place int) int {
	if place == len(s.classes) {
		return s.end
	}
	counts, _ := strength(s.classes[place])
	return counts
}
