package bidi

import "widgetry/api"

// levelRun is a list of consecutive runes with the same level: places from to to-1 in the list of runes that are not removed.
type levelRun struct{ from, to int }

// sequence is an isolating run sequence.
type sequence struct {
	runes   []int // indices in the text
	text    []rune
	given   []int // the classes in char.Bidi
	classes []int // what they have become
	level   int
	start   int // the class that stands before the sequence
	end     int // the class that stands after it
}

func (p *paragraph) sequences() []*sequence {
	kept := p.kept()
	runs := p.levelRuns(kept)
	next := p.nextRuns(kept, runs)
	var found []*sequence
	continues := make([]bool, len(runs))
	for first := range runs {
		if continues[first] {
			continue
		}
		s := &sequence{level: p.levels[kept[runs[first].from]]}
		last := first
		for run := first; run != none; run = next[run] {
			continues[run] = true
			last = run
			p.extend(s, kept[runs[run].from:runs[run].to])
		}
		s.start = p.outside(s.level, kept, runs[first].from-1)
		after := runs[last].to
		if initiates(p.given[kept[after-1]]) {
			after = len(kept)
		}
		s.end = p.outside(s.level, kept, after)
		found = append(found, s)
	}
	return found
}

// kept returns the runes that are not removed.
func (p *paragraph) kept() []int {
	var kept []int
	for i, class := range p.given {
		if !removed(class) {
			kept = append(kept, i)
		}
	}
	return kept
}

func (p *paragraph) levelRuns(kept []int) []levelRun {
	var runs []levelRun
	for i, at := range kept {
		if i == 0 || p.levels[at] != p.levels[kept[i-1]] {
			runs = append(runs, levelRun{from: i})
		}
		runs[len(runs)-1].to = i + 1
	}
	return runs
}

// nextRuns returns for each run the one that continues its sequence, or none.
func (p *paragraph) nextRuns(kept []int, runs []levelRun) []int {
	beginning := map[int]int{} // the run that begins with a rune
	for run, r := range runs {
		beginning[kept[r.from]] = run
	}
	ends := matches(p.given)
	next := make([]int, len(runs))
	for run, r := range runs {
		next[run] = none
		last := kept[r.to-1]
		if continued, ok := beginning[ends[last]]; ok && initiates(p.given[last]) {
			next[run] = continued
		}
	}
	return next
}

func (p *paragraph) extend(s *sequence, runes []int) {
	for _, i := range runes {
		s.runes = append(s.runes, i)
		s.text = append(s.text, p.text[i])
		s.given = append(s.given, p.given[i])
		s.classes = append(s.classes, p.classes[i])
	}
}

// outside returns the class that stands beside a sequence of the level: the rune at the place decides, or the level of the paragraph if there is none.
func (p *paragraph) outside(level int, kept []int, place int) int {
	beside := p.base
	if place >= 0 && place < len(kept) {
		beside = p.levels[kept[place]]
	}
	return direction(max(level, beside))
}

// resolve gives every rune of the sequence one of the classes L, R, EN and AN.
func (s *sequence) resolve() {
	s.resolveWeak()
	s.resolveBrackets()
	s.resolveNeutral()
}

// levelOf returns the level of the rune i when the classes are resolved.
func (s *sequence) levelOf(i int) int {
	class := s.classes[i]
	switch {
	case class == direction(s.level):
		return s.level
	case s.level%2 == 0 && (class == api.BidiAN || class == api.BidiEN):
		return s.level + 2
	}
	return s.level + 1
}
