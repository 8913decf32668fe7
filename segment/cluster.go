package segment

import "widgetry/api"

// clusterState is what the rules of clusters see of the runes before a position.
type clusterState struct {
	last    int  // the class of the last rune
	picture bool // the last runes are a Picture and any number of Extend
	joined  bool // the last rune is a ZWJ after such runes
	odd     bool // the number of consecutive Regional runes at the end is odd
}

// newClusterState stands before the first rune. It counts as Control, because every text begins with a boundary.
func newClusterState() clusterState {
	return clusterState{last: api.BreakControl}
}

// pass takes in the next rune, of the class given.
func (s *clusterState) pass(class int) {
	s.joined = class == api.BreakZWJ && s.picture
	s.picture = class == api.BreakPicture || class == api.BreakExtend && s.picture
	s.odd = class == api.BreakRegional && !s.odd
	s.last = class
}

// boundary returns whether the rules of P4.1 put a boundary before a rune of the class b.
func (s *clusterState) boundary(b int) bool {
	stands := func(c int) bool {
		return c == api.BreakControl || c == api.BreakCR || c == api.BreakLF
	}
	attaches := func(c int) bool {
		return c == api.BreakExtend || c == api.BreakZWJ || c == api.BreakSpacing
	}
	switch a := s.last; {
	case a == api.BreakCR && b == api.BreakLF:
		return false
	case stands(a) || stands(b):
		return true
	case sameSyllable(a, b):
		return false
	case attaches(b) || a == api.BreakPrepend:
		return false
	case b == api.BreakPicture:
		return !s.joined
	case b == api.BreakRegional:
		return !s.odd
	}
	return true
}

// sameSyllable returns whether runes of the classes a and b can follow one another in a Hangul syllable.
func sameSyllable(a, b int) bool {
	followsInitial := func(c int) bool {
		return c == api.BreakL || c == api.BreakV || c == api.BreakLV || c == api.BreakLVT
	}
	followsVowel := func(c int) bool {
		return c == api.BreakV || c == api.BreakT
	}
	switch a {
	case api.BreakL:
		return followsInitial(b)
	case api.BreakLV, api.BreakV:
		return followsVowel(b)
	case api.BreakLVT, api.BreakT:
		return b == api.BreakT
	}
	return false
}
