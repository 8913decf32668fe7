package segment

import (
	"widgetry/api"
	"widgetry/char"
)

// wordState is what the rules of words see of the runes before a position.
type wordState struct {
	last      int  // the class of the last rune
	a         int  // the class of the last rune that is not skipped
	beforeA   int  // the class of the rune before that one, also not skipped
	oddRegion bool // the number of consecutive Regional runes that end there is odd
}

// newWordState stands before the first rune. It counts as Newline, because every text begins with a boundary.
func newWordState() wordState {
	return wordState{last: api.WordNewline}
}

// pass takes in the next rune, of the class given.
func (s *wordState) pass(class int) {
	s.last = class
	if extends(class) {
		// This holds at the beginning and after a Newline as well: the rules 6 to 14 name neither Other nor Newline,
		// so that it is the same to them whether a is the first rune of the run, as Other, or the rune before it.
		return
	}
	s.beforeA, s.a = s.a, class
	s.oddRegion = class == api.WordRegional && !s.oddRegion
}

// boundary returns whether the rules of P4.2 put a boundary at the position at of t; s has taken in the runes before it.
func (s *wordState) boundary(t []rune, at int) bool {
	b := char.Word(t[at])
	switch {
	case at > 0 && t[at-1] == '\r' && t[at] == '\n':
		return false
	case s.last == api.WordNewline || b == api.WordNewline:
		return true
	case s.last == api.WordZWJ && char.Break(t[at]) == api.BreakPicture:
		return false
	case s.last == api.WordSpace && b == api.WordSpace:
		return false
	case extends(b):
		return false
	}
	return !s.sameWord(b, t[at+1:])
}

// sameWord returns whether one of the rules 6 to 14 forbids a boundary before a rune of the class b, which the runes of rest follow.
func (s *wordState) sameWord(b int, rest []rune) bool {
	a := s.a
	alphanumeric := func(c int) bool { return c == api.WordLetter || c == api.WordNumeric }
	amongLetters := func(c int) bool { return c == api.WordMid || c == api.WordMidBoth }
	amongDigits := func(c int) bool { return c == api.WordMidNum || c == api.WordMidBoth }
	connectable := func(c int) bool { return alphanumeric(c) || c == api.WordKatakana }
	switch {
	case alphanumeric(a) && alphanumeric(b):
		return true
	case a == api.WordLetter && amongLetters(b):
		return unskipped(rest) == api.WordLetter
	case amongLetters(a) && b == api.WordLetter:
		return s.beforeA == api.WordLetter
	case a == api.WordNumeric && amongDigits(b):
		return unskipped(rest) == api.WordNumeric
	case amongDigits(a) && b == api.WordNumeric:
		return s.beforeA == api.WordNumeric
	case a == api.WordKatakana && b == api.WordKatakana:
		return true
	case b == api.WordConnect:
		return connectable(a) || a == api.WordConnect
	case a == api.WordConnect:
		return connectable(b)
	}
	return b == api.WordRegional && s.oddRegion
}

// unskipped returns the class of the first rune of t that is not skipped; the end of a text counts as Other.
func unskipped(t []rune) int {
	for _, r := range t {
		if class := char.Word(r); !extends(class) {
			return class
		}
	}
	return api.WordOther
}

// extends returns whether runes of the class c are skipped after another rune.
func extends(c int) bool {
	return c == api.WordExtend || c == api.WordZWJ
}
