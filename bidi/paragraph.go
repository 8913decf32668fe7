package bidi

import "widgetry/char"

// paragraph is the text with what the steps have found so far.
type paragraph struct {
	text    []rune
	base    int
	given   []int // the classes in char.Bidi
	classes []int // what an override has made of them
	levels  []int
}

func newParagraph(t []rune, base int) *paragraph {
	p := &paragraph{text: t, base: Base(t, base), given: make([]int, len(t)), classes: make([]int, len(t)), levels: make([]int, len(t))}
	for i, r := range t {
		p.given[i] = char.Bidi(r)
	}
	copy(p.classes, p.given)
	return p
}

// raise takes the levels of the runes of a sequence whose classes are resolved.
func (p *paragraph) raise(s *sequence) {
	for i, at := range s.runes {
		p.levels[at] = s.levelOf(i)
	}
}

// levelRemoved gives the runes that took no part in the steps the level of the rune before them.
func (p *paragraph) levelRemoved() {
	before := p.base
	for i, class := range p.given {
		if removed(class) {
			p.levels[i] = before
		}
		before = p.levels[i]
	}
}

// levelSeparators gives separators, and what hangs before them or at the end of the text, the level of the paragraph.
func (p *paragraph) levelSeparators() {
	ends := true // only runes that hang stand between here and the end or a separator
	for i := len(p.given) - 1; i >= 0; i-- {
		class := p.given[i]
		ends = separates(class) || ends && hangs(class)
		if ends {
			p.levels[i] = p.base
		}
	}
}
