package bidi

import "widgetry/api"

// none is the override of an entry that changes no classes.
const none = -1

type entry struct {
	level    int
	override int // the class that runes get, or none
	isolate  bool
}

// stack is the state of the step of explicit levels.
type stack struct {
	entries          []entry
	isolates         int // entries that are isolates
	isolatesBeyond   int // isolates that had no room
	embeddingsBeyond int // embeddings that had no room
}

func newStack(base int) *stack {
	return &stack{entries: []entry{{level: base, override: none}}}
}

func (s *stack) last() entry {
	return s.entries[len(s.entries)-1]
}

func (s *stack) pop() {
	s.entries = s.entries[:len(s.entries)-1]
}

// above returns the least level above the last one that has the direction of the class.
func (s *stack) above(class int) int {
	next := s.last().level + 1
	if direction(next) != class {
		next++
	}
	return next
}

// fits returns whether an entry with the level can be pushed.
func (s *stack) fits(level int) bool {
	return level <= api.MaxBidi && s.isolatesBeyond == 0 && s.embeddingsBeyond == 0
}

func (s *stack) openEmbedding(class, override int) {
	level := s.above(class)
	if s.fits(level) {
		s.entries = append(s.entries, entry{level: level, override: override})
	} else if s.isolatesBeyond == 0 {
		s.embeddingsBeyond++
	}
}

func (s *stack) closeEmbedding() {
	switch {
	case s.isolatesBeyond > 0:
		// The embedding that ends here began in an isolate without an entry.
	case s.embeddingsBeyond > 0:
		s.embeddingsBeyond--
	case !s.last().isolate && len(s.entries) >= 2:
		s.pop()
	}
}

func (s *stack) openIsolate(class int) {
	level := s.above(class)
	if s.fits(level) {
		s.isolates++
		s.entries = append(s.entries, entry{level: level, override: none, isolate: true})
	} else {
		s.isolatesBeyond++
	}
}

func (s *stack) closeIsolate() {
	if s.isolatesBeyond > 0 {
		s.isolatesBeyond--
		return
	}
	if s.isolates == 0 {
		return
	}
	// Embeddings that are still open end with the isolate that contains them.
	s.embeddingsBeyond = 0
	for !s.last().isolate {
		s.pop()
	}
	s.pop()
	s.isolates--
}

// embed finds the explicit levels, and the classes that overrides make.
func (p *paragraph) embed() {
	s := newStack(p.base)
	ends := matches(p.given)
	for i, class := range p.given {
		if class == api.BidiPDI {
			s.closeIsolate()
		}
		p.place(i, s.last())
		switch class {
		case api.BidiRLE:
			s.openEmbedding(api.BidiR, none)
		case api.BidiLRE:
			s.openEmbedding(api.BidiL, none)
		case api.BidiRLO:
			s.openEmbedding(api.BidiR, api.BidiR)
		case api.BidiLRO:
			s.openEmbedding(api.BidiL, api.BidiL)
		case api.BidiRLI:
			s.openIsolate(api.BidiR)
		case api.BidiLRI:
			s.openIsolate(api.BidiL)
		case api.BidiFSI:
			s.openIsolate(direction(Base(p.text[i+1:ends[i]], api.BaseAuto)))
		case api.BidiPDF:
			s.closeEmbedding()
		}
	}
}

// place gives the rune i what the entry says. The classes of runes that will be removed do not matter any more.
func (p *paragraph) place(i int, e entry) {
	if p.given[i] == api.BidiB {
		p.levels[i] = p.base
		return
	}
	p.levels[i] = e.level
	if e.override != none {
		p.classes[i] = e.override
	}
}

// matches returns for each isolate initiator its matching PDI, or the length of the text.
func matches(classes []int) []int {
	ends := make([]int, len(classes))
	var open []int
	for i, class := range classes {
		ends[i] = len(classes)
		if initiates(class) {
			open = append(open, i)
		}
		if class == api.BidiPDI && len(open) > 0 {
			ends[open[len(open)-1]] = i
			open = open[:len(open)-1]
		}
	}
	return ends
}
