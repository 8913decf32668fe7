package bidi

import (
	"slices"
	"testing"

	"widgetry/char"
)

// forTexts calls visit with every text of up to length runes of the alphabet.
func forTexts(alphabet []rune, length int, visit func([]rune)) {
	var text []rune
	var extend func()
	extend = func() {
		visit(text)
		if len(text) == length {
			return
		}
		for _, r := range alphabet {
			text = append(text, r)
			extend()
			text = text[:len(text)-1]
		}
	}
	extend()
}

// forLongTexts calls visit with texts of the alphabet that differ from each other but are the same in every run of the tests.
func forLongTexts(alphabet []rune, count, length int, visit func([]rune)) {
	state := uint32(1)
	for range count {
		text := make([]rune, length)
		for i := range text {
			state = state*1664525 + 1013904223
			text[i] = alphabet[int(state>>16)%len(alphabet)]
		}
		visit(text)
	}
}

func oneOfEach() []rune {
	return []rune{
		'a', hebrew, arabic, '1', '+', '$', digit, ',', mark, hyphen, divider, '\t', ' ', '!',
		lre, lro, rle, rlo, pdf, lri, rli, fsi, pdi, '(', ')', '[', ']',
	}
}

func TestClassesOfOneOfEach(t *testing.T) {
	found := map[int]bool{}
	for _, r := range oneOfEach() {
		found[char.Bidi(r)] = true
	}
	if len(found) != 23 {
		t.Errorf("the texts of the tests have runes of %d classes, not of 23", len(found))
	}
}

func TestLevelsOfAllShortTexts(t *testing.T) {
	check := func(text []rune) {
		for base := -1; base <= 1; base++ {
			if got, want := Base(text, base), chapterBase(text, base); got != want {
				t.Fatalf("P6.1: Base(%x, %d) is %d, not %d", text, base, got, want)
			}
			if got, want := Levels(text, base), chapterLevels(text, base); !slices.Equal(got, want) {
				t.Fatalf("P6.2: Levels(%x, %d) is %v, not %v", text, base, got, want)
			}
		}
	}
	forTexts(oneOfEach(), 2, check)
	forTexts([]rune{'a', hebrew, arabic, '1', digit, '+', ',', '$', mark}, 4, check)
	forTexts([]rune{'a', hebrew, '(', ')', mark}, 5, check)
	forTexts([]rune{'a', hebrew, rli, pdi, rlo, divider}, 5, check)
	forLongTexts(oneOfEach(), 4000, 20, check)
	forLongTexts([]rune{'a', hebrew, '1', '(', ')', '[', ']', mark, pdi, rli, rlo, lro, pdf}, 4000, 20, check)
	forLongTexts([]rune{lre, rle, lro, rlo, lri, rli, fsi, lre, rle, lro, rlo, lri, rli, hebrew, '1', pdf, pdi}, 15, 230, check)
}

func TestResetOfAllShortTexts(t *testing.T) {
	forTexts([]rune{'a', hebrew, ' ', '\t', divider, hyphen, rle, pdf, lri, pdi, '1', mark}, 3, func(text []rune) {
		levels := make([]int, len(text))
		for i := range levels {
			levels[i] = 5 + i
		}
		for to := 0; to <= len(text); to++ {
			for from := 0; from <= to; from++ {
				want := slices.Clone(levels[from:to])
				for i := to; i > from && (chapterHangs(text[i-1]) || text[i-1] == '\t' || text[i-1] == divider); i-- {
					want[i-1-from] = 3
				}
				if got := Reset(text, levels, 3, from, to); !slices.Equal(got, want) {
					t.Fatalf("P6.3: Reset(%x, %v, 3, %d, %d) is %v, not %v", text, levels, from, to, got, want)
				}
			}
		}
	})
}

// chapterOrder follows P6.4: it stops at the lowest odd level, and searches each list in the order reached so far.
func chapterOrder(levels []int) []int {
	order := []int{}
	highest, lowestOdd := 0, 1000
	for i, level := range levels {
		order = append(order, i)
		highest = max(highest, level)
		if level%2 == 1 {
			lowestOdd = min(lowestOdd, level)
		}
	}
	for level := highest; level >= lowestOdd; level-- {
		for from := 0; from < len(order); from++ {
			to := from
			for to < len(order) && levels[order[to]] >= level {
				to++
			}
			slices.Reverse(order[from:to])
			from = to
		}
	}
	return order
}

func TestOrderOfAllShortLists(t *testing.T) {
	forTexts([]rune{0, 1, 2, 3, 4, 7}, 6, func(text []rune) {
		levels := make([]int, len(text))
		for i, r := range text {
			levels[i] = int(r)
		}
		got := Order(levels)
		if want := chapterOrder(levels); !slices.Equal(got, want) {
			t.Fatalf("P6.4: Order(%v) is %v, not %v", levels, got, want)
		}
		checkPermutation(t, levels, got)
		var ends []int
		for i := range levels {
			if i > 0 && levels[i] != levels[i-1] {
				ends = append(ends, i)
			}
		}
		if len(levels) > 0 {
			ends = append(ends, len(levels))
		}
		if got := Runs(levels); !slices.Equal(got, ends) {
			t.Fatalf("P6.4: Runs(%v) is %v, not %v", levels, got, ends)
		}
	})
}

func checkPermutation(t *testing.T, levels, order []int) {
	t.Helper()
	sorted := slices.Sorted(slices.Values(order))
	for i, index := range sorted {
		if len(sorted) != len(levels) || index != i {
			t.Fatalf("P6.5: Order(%v) is no permutation: %v", levels, order)
		}
	}
}
