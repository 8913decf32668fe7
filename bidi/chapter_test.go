package bidi

import (
	"slices"

	"widgetry/api"
	"widgetry/char"
)

// This file follows the steps of P6.2 as they stand in the chapter, with searches instead of what the program remembers.

func isOne(class int, of ...int) bool { return slices.Contains(of, class) }

func isInitiator(r rune) bool {
	return isOne(char.Bidi(r), api.BidiLRI, api.BidiRLI, api.BidiFSI)
}

func isRemoved(r rune) bool {
	return isOne(char.Bidi(r), api.BidiRLE, api.BidiLRE, api.BidiRLO, api.BidiLRO, api.BidiPDF, api.BidiBN)
}

// chapterMatch returns the matching PDI of the isolate initiator i, or -1.
func chapterMatch(t []rune, i int) int {
	initiators, ends := 0, 0 // between i and j
	for j := i + 1; j < len(t); j++ {
		if char.Bidi(t[j]) == api.BidiPDI && initiators == ends {
			return j
		}
		if isInitiator(t[j]) {
			initiators++
		}
		if char.Bidi(t[j]) == api.BidiPDI {
			ends++
		}
	}
	return -1
}

func chapterHidden(t []rune, at int) bool {
	for i := range t[:at] {
		if !isInitiator(t[i]) {
			continue
		}
		if j := chapterMatch(t, i); j < 0 || j > at {
			return true
		}
	}
	return false
}

func chapterBase(t []rune, base int) int {
	if base == 0 || base == 1 {
		return base
	}
	for i, r := range t {
		if isOne(char.Bidi(r), api.BidiL, api.BidiR, api.BidiAL) && !chapterHidden(t, i) {
			if char.Bidi(r) == api.BidiL {
				return 0
			}
			return 1
		}
	}
	return 0
}

func nextOdd(n int) int {
	for n++; n%2 != 1; n++ {
	}
	return n
}

func nextEven(n int) int {
	for n++; n%2 != 0; n++ {
	}
	return n
}

type chapterEntry struct {
	level    int
	override string
	isolate  bool
}

// chapterExplicit returns the levels and classes after the step of explicit levels.
func chapterExplicit(t []rune, e int) (levels, classes []int) {
	entries := []chapterEntry{{e, "none", false}}
	overIsolates, overEmbeddings, validIsolates := 0, 0, 0
	for i, r := range t {
		class := char.Bidi(r)
		if class == api.BidiPDI {
			if overIsolates != 0 {
				overIsolates--
			} else if validIsolates != 0 {
				overEmbeddings = 0
				for !entries[len(entries)-1].isolate {
					entries = entries[:len(entries)-1]
				}
				entries = entries[:len(entries)-1]
				validIsolates--
			}
		}
		last := entries[len(entries)-1]
		level, became := last.level, class
		if class == api.BidiB {
			level = e
		} else if last.override == "L" {
			became = api.BidiL
		} else if last.override == "R" {
			became = api.BidiR
		}
		levels, classes = append(levels, level), append(classes, became)
		free := overIsolates == 0 && overEmbeddings == 0
		switch class {
		case api.BidiRLE, api.BidiLRE, api.BidiRLO, api.BidiLRO:
			pushed := map[int]chapterEntry{
				api.BidiRLE: {nextOdd(last.level), "none", false}, api.BidiLRE: {nextEven(last.level), "none", false},
				api.BidiRLO: {nextOdd(last.level), "R", false}, api.BidiLRO: {nextEven(last.level), "L", false},
			}[class]
			if pushed.level <= 125 && free {
				entries = append(entries, pushed)
			} else if overIsolates == 0 {
				overEmbeddings++
			}
		case api.BidiRLI, api.BidiLRI, api.BidiFSI:
			if class == api.BidiFSI {
				end := chapterMatch(t, i)
				if end < 0 {
					end = len(t)
				}
				class = []int{api.BidiLRI, api.BidiRLI}[chapterBase(t[i+1:end], -1)]
			}
			n := map[int]int{api.BidiRLI: nextOdd(last.level), api.BidiLRI: nextEven(last.level)}[class]
			if n <= 125 && free {
				validIsolates++
				entries = append(entries, chapterEntry{n, "none", true})
			} else {
				overIsolates++
			}
		case api.BidiPDF:
			if overIsolates != 0 {
			} else if overEmbeddings != 0 {
				overEmbeddings--
			} else if !last.isolate && len(entries) >= 2 {
				entries = entries[:len(entries)-1]
			}
		}
	}
	return levels, classes
}

// chapterSequences returns the isolating run sequences: lists of indices.
func chapterSequences(t []rune, levels []int) [][]int {
	var runs [][]int
	previous := -1
	for i, r := range t {
		if isRemoved(r) {
			continue
		}
		if previous < 0 || levels[previous] != levels[i] {
			runs = append(runs, nil)
		}
		runs[len(runs)-1] = append(runs[len(runs)-1], i)
		previous = i
	}
	linked := func(a, b []int) bool {
		last := a[len(a)-1]
		return isInitiator(t[last]) && chapterMatch(t, last) == b[0]
	}
	var sequences [][]int
	for _, run := range runs {
		if slices.ContainsFunc(runs, func(other []int) bool { return linked(other, run) }) {
			continue
		}
		sequence := slices.Clone(run)
		for _, other := range runs {
			if linked(sequence, other) {
				sequence = append(sequence, other...)
			}
		}
		sequences = append(sequences, sequence)
	}
	return sequences
}

func classOf(level int) int { return level % 2 } // api.BidiL or api.BidiR

// chapterEnds returns the start and the end class of a sequence.
func chapterEnds(t []rune, levels, sequence []int, e int) (start, end int) {
	before, after := e, e
	for i := sequence[0] - 1; i >= 0; i-- {
		if !isRemoved(t[i]) {
			before = levels[i]
			break
		}
	}
	last := sequence[len(sequence)-1]
	for i := last + 1; i < len(t) && !isInitiator(t[last]); i++ {
		if !isRemoved(t[i]) {
			after = levels[i]
			break
		}
	}
	level := levels[sequence[0]]
	return classOf(max(level, before)), classOf(max(level, after))
}

// chapterPreceding returns the class of the last of the classes before the place i, or otherwise.
func chapterPreceding(classes []int, i, otherwise int, of ...int) int {
	for i--; i >= 0; i-- {
		if isOne(classes[i], of...) {
			return classes[i]
		}
	}
	return otherwise
}

// chapterWeak applies W1 to W7 to the classes of a sequence.
func chapterWeak(text []rune, c []int, start int) {
	each := func(rule func(i int)) {
		for i := range c {
			rule(i)
		}
	}
	at := func(i int) int {
		if i < 0 || i >= len(c) {
			return -1
		}
		return c[i]
	}
	each(func(i int) {
		if c[i] != api.BidiNSM {
		} else if i == 0 {
			c[i] = start
		} else if isInitiator(text[i-1]) || char.Bidi(text[i-1]) == api.BidiPDI {
			c[i] = api.BidiON
		} else {
			c[i] = c[i-1]
		}
	})
	each(func(i int) {
		if c[i] == api.BidiEN && chapterPreceding(c, i, -1, api.BidiL, api.BidiR, api.BidiAL) == api.BidiAL {
			c[i] = api.BidiAN
		}
	})
	each(func(i int) {
		if c[i] == api.BidiAL {
			c[i] = api.BidiR
		}
	})
	each(func(i int) {
		if isOne(c[i], api.BidiES, api.BidiCS) && at(i-1) == api.BidiEN && at(i+1) == api.BidiEN {
			c[i] = api.BidiEN
		} else if c[i] == api.BidiCS && at(i-1) == api.BidiAN && at(i+1) == api.BidiAN {
			c[i] = api.BidiAN
		}
	})
	each(func(i int) { // a list of ET is adjacent to EN if one reaches EN through ET alone
		for j := i; at(j) == api.BidiET; j++ {
			if at(j+1) == api.BidiEN {
				c[i] = api.BidiEN
			}
		}
		if c[i] == api.BidiET && at(i-1) == api.BidiEN {
			c[i] = api.BidiEN
		}
	})
	each(func(i int) {
		if isOne(c[i], api.BidiES, api.BidiET, api.BidiCS) {
			c[i] = api.BidiON
		}
	})
	each(func(i int) {
		if c[i] == api.BidiEN && chapterPreceding(c, i, start, api.BidiL, api.BidiR) == api.BidiL {
			c[i] = api.BidiL
		}
	})
}

// counting returns the classes with R for EN and AN.
func counting(c []int) []int {
	counted := slices.Clone(c)
	for i := range counted {
		if isOne(counted[i], api.BidiEN, api.BidiAN) {
			counted[i] = api.BidiR
		}
	}
	return counted
}

func chapterPairs(text []rune, c []int) [][2]int {
	var open []int
	closing := map[int]int{}
	for i, r := range text {
		if c[i] != api.BidiON {
			continue
		}
		kind, other := char.Bracket(r)
		if kind == api.BracketOpen && len(open) >= 63 {
			return nil
		}
		if kind == api.BracketOpen {
			open = append(open, i)
		}
		for k := len(open) - 1; kind == api.BracketClose && k >= 0; k-- {
			if text[open[k]] == other {
				closing[open[k]] = i
				open = open[:k]
				break
			}
		}
	}
	var pairs [][2]int
	for i := range text {
		if j, ok := closing[i]; ok {
			pairs = append(pairs, [2]int{i, j})
		}
	}
	return pairs
}

func chapterBrackets(text []rune, c []int, level, start int) {
	d := classOf(level)
	for _, pair := range chapterPairs(text, c) {
		inside := counting(c[pair[0]+1 : pair[1]])
		became := d
		if slices.Contains(inside, d) {
		} else if slices.Contains(inside, 1-d) {
			if chapterPreceding(counting(c), pair[0], start, api.BidiL, api.BidiR) == 1-d {
				became = 1 - d
			}
		} else {
			continue
		}
		for _, i := range pair {
			c[i] = became
			for i++; i < len(c) && char.Bidi(text[i]) == api.BidiNSM; i++ {
				c[i] = became
			}
		}
	}
}

func chapterNeutral(c []int, level, start, end int) {
	framed := slices.Concat([]int{start}, counting(c), []int{end})
	for i := range c {
		from, to := i, i+2
		for ; !isOne(framed[from], api.BidiL, api.BidiR); from-- {
		}
		for ; !isOne(framed[to], api.BidiL, api.BidiR); to++ {
		}
		if isOne(c[i], api.BidiL, api.BidiR, api.BidiEN, api.BidiAN) {
			continue
		}
		c[i] = classOf(level)
		if framed[from] == framed[to] {
			c[i] = framed[from]
		}
	}
}

func chapterHangs(r rune) bool {
	return isOne(char.Bidi(r), api.BidiWS, api.BidiPDI, api.BidiBN) || isInitiator(r) || isRemoved(r)
}

func chapterLevels(t []rune, base int) []int {
	e := chapterBase(t, base)
	explicit, classes := chapterExplicit(t, e)
	levels := slices.Clone(explicit)
	for _, sequence := range chapterSequences(t, explicit) {
		var text []rune
		var c []int
		for _, i := range sequence {
			text, c = append(text, t[i]), append(c, classes[i])
		}
		level := explicit[sequence[0]]
		start, end := chapterEnds(t, explicit, sequence, e)
		chapterWeak(text, c, start)
		chapterBrackets(text, c, level, start)
		chapterNeutral(c, level, start, end)
		for k, i := range sequence {
			switch {
			case level%2 == 0 && c[k] == api.BidiR, level%2 == 1 && c[k] != api.BidiR:
				levels[i] = level + 1
			case level%2 == 0 && isOne(c[k], api.BidiEN, api.BidiAN):
				levels[i] = level + 2
			}
		}
	}
	for i, r := range t {
		if isRemoved(r) && i == 0 {
			levels[i] = e
		} else if isRemoved(r) {
			levels[i] = levels[i-1]
		}
	}
	for i := range t {
		j := i
		for j < len(t) && chapterHangs(t[j]) {
			j++
		}
		if j == len(t) || isOne(char.Bidi(t[j]), api.BidiS, api.BidiB) {
			levels[i] = e
		}
	}
	return levels
}
