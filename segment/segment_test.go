package segment

import (
	"math"
	"slices"
	"testing"

	"widgetry/api"
	"widgetry/char"
)

// The runes of the tests, one of each class and a few more.
const (
	acute     = 0x0301  // Extend
	spacing   = 0x0903  // Break: Spacing, Word: Extend
	mark      = 0x200E  // Break: Control, Word: Extend
	joiner    = 0x200D  // ZWJ
	prepend   = 0x0600  // Break: Prepend, Word: Other
	initial   = 0x1100  // Break: L
	vowel     = 0x1160  // Break: V
	final     = 0x11A8  // Break: T
	syllable  = 0xAC00  // Break: LV
	closed    = 0xAC01  // Break: LVT
	separator = 0x2028  // Break: Control, Word: Newline
	katakana  = 0x30A2  // Word: Katakana
	regional  = 0x1F1E6 // Regional
	flag      = 0x1F1FF // Regional
	picture   = 0x1F600 // Break: Picture, Word: Other
	tone      = 0x1F3FB // Extend
)

type boundaryTest struct {
	rule string
	t    []rune
	want []int
}

func checkBoundaries(t *testing.T, find func([]rune) []int, tests []boundaryTest) {
	t.Helper()
	for _, x := range tests {
		if got := find(x.t); !slices.Equal(got, x.want) {
			t.Errorf("%s: the boundaries of %x are %v, not %v", x.rule, x.t, got, x.want)
		}
	}
}

func TestClusterRules(t *testing.T) {
	checkBoundaries(t, Clusters, []boundaryTest{
		{"example 1", []rune{'e', acute, 'a'}, []int{0, 2, 3}},
		{"one rune", []rune{'a'}, []int{0, 1}},
		{"one Extend", []rune{acute}, []int{0, 1}},
		{"Extend at the beginning", []rune{acute, acute, 'a'}, []int{0, 2, 3}},
		{"line feed at the beginning", []rune{'\n', 'a'}, []int{0, 1, 2}},
		{"rule 1", []rune{'\r', '\n'}, []int{0, 2}},
		{"rule 1", []rune{'\r', '\n', '\n'}, []int{0, 2, 3}},
		{"rule 2", []rune{'\n', '\r', '\r'}, []int{0, 1, 2, 3}},
		{"rule 2", []rune{'\n', acute}, []int{0, 1, 2}},
		{"rule 2", []rune{'\r', joiner}, []int{0, 1, 2}},
		{"rule 2", []rune{'\t', spacing}, []int{0, 1, 2}},
		{"rule 3", []rune{prepend, '\n'}, []int{0, 1, 2}},
		{"rule 3", []rune{prepend, '\r'}, []int{0, 1, 2}},
		{"rule 3", []rune{prepend, mark}, []int{0, 1, 2}},
		{"rule 4", []rune{initial, initial, vowel}, []int{0, 3}},
		{"rule 4", []rune{initial, syllable}, []int{0, 2}},
		{"rule 4", []rune{initial, closed}, []int{0, 2}},
		{"rule 4", []rune{initial, final}, []int{0, 1, 2}},
		{"rule 5", []rune{syllable, vowel, vowel, final}, []int{0, 4}},
		{"rule 5", []rune{syllable, final}, []int{0, 2}},
		{"rule 5", []rune{syllable, syllable}, []int{0, 1, 2}},
		{"rule 5", []rune{vowel, initial}, []int{0, 1, 2}},
		{"rule 6", []rune{closed, final, final}, []int{0, 3}},
		{"rule 6", []rune{closed, vowel}, []int{0, 1, 2}},
		{"rule 6", []rune{final, vowel}, []int{0, 1, 2}},
		{"rule 7", []rune{'a', acute, joiner, spacing, 'b'}, []int{0, 4, 5}},
		{"rule 8", []rune{prepend, 'a', prepend, prepend, ' '}, []int{0, 2, 5}},
		{"rule 9", []rune{picture, joiner, picture}, []int{0, 3}},
		{"rule 9", []rune{picture, tone, acute, joiner, picture, joiner, picture}, []int{0, 7}},
		{"rule 9", []rune{'a', joiner, picture}, []int{0, 2, 3}},
		{"rule 9", []rune{joiner, picture}, []int{0, 1, 2}},
		{"rule 9", []rune{picture, joiner, joiner, picture}, []int{0, 3, 4}},
		{"rule 9", []rune{picture, joiner, acute, picture}, []int{0, 3, 4}},
		{"rule 9", []rune{picture, spacing, joiner, picture}, []int{0, 3, 4}},
		{"rule 9", []rune{picture, acute, picture}, []int{0, 2, 3}},
		{"rule 9", []rune{picture, joiner, 'a'}, []int{0, 2, 3}},
		{"rule 9", []rune{picture, 'a', joiner, picture}, []int{0, 1, 3, 4}},
		{"rule 10", []rune{regional, flag}, []int{0, 2}},
		{"rule 10", []rune{regional, flag, regional, flag, regional}, []int{0, 2, 4, 5}},
		{"rule 10", []rune{regional, acute, flag, regional}, []int{0, 2, 4}},
		{"rule 10", []rune{'a', regional, flag, regional}, []int{0, 1, 3, 4}},
		{"rule 11", []rune{'a', 'b', ' ', katakana, picture, picture}, []int{0, 1, 2, 3, 4, 5, 6}},
		{"no rune", []rune{-1, acute, math.MaxInt32, 0xD800}, []int{0, 2, 3, 4}},
	})
}

func TestWordRules(t *testing.T) {
	checkBoundaries(t, Words, []boundaryTest{
		{"example 2", []rune("can't 3.5"), []int{0, 5, 6, 9}},
		{"one rune", []rune{'a'}, []int{0, 1}},
		{"rule 1", []rune{'a', '\r', '\n', 'b'}, []int{0, 1, 3, 4}},
		{"rule 1", []rune{'\n', '\r', '\r'}, []int{0, 1, 2, 3}},
		{"rule 1", []rune{separator, '\n', '\r', separator}, []int{0, 1, 2, 3, 4}},
		{"rule 2", []rune{'\n', acute, 'a'}, []int{0, 1, 2, 3}},
		{"rule 2", []rune{'\n', joiner, joiner}, []int{0, 1, 3}},
		{"rule 2", []rune{'a', '\n', '\n'}, []int{0, 1, 2, 3}},
		{"rule 3", []rune{'a', joiner, picture}, []int{0, 3}},
		{"rule 3", []rune{joiner, picture}, []int{0, 2}},
		{"rule 3", []rune{picture, joiner, acute, picture}, []int{0, 3, 4}},
		{"rule 4", []rune{' ', ' ', 0x3000, 'a'}, []int{0, 3, 4}},
		{"rule 4", []rune{' ', acute, ' '}, []int{0, 2, 3}},
		{"rule 5", []rune{' ', acute, joiner, 'a', spacing, mark}, []int{0, 3, 6}},
		{"rule 6", []rune{'a', acute, 'b', 0x05D0, syllable}, []int{0, 5}},
		{"rules 7 and 8", []rune("a:b'c\u00B7d"), []int{0, 7}},
		{"rules 7 and 8", []rune{'a', acute, ':', joiner, acute, 'b'}, []int{0, 6}},
		{"rule 7", []rune("a:"), []int{0, 1, 2}},
		{"rule 7", []rune("a:1"), []int{0, 1, 2, 3}},
		{"rule 7", []rune("a::b"), []int{0, 1, 2, 3, 4}},
		{"rule 7", []rune{'a', ':', '\n', acute, 'b'}, []int{0, 1, 2, 3, 4, 5}},
		{"rule 7", []rune("a,b;c"), []int{0, 1, 2, 3, 4, 5}},
		{"rule 8", []rune(":a"), []int{0, 1, 2}},
		{"rule 8", []rune("1:a"), []int{0, 1, 2, 3}},
		{"rule 8", []rune{acute, ':', 'a'}, []int{0, 1, 2, 3}},
		{"rule 9", []rune{'1', '2', acute, 'a', '3', 0x0660}, []int{0, 6}},
		{"rules 10 and 11", []rune("1,2;3.4'5"), []int{0, 9}},
		{"rules 10 and 11", []rune{'1', acute, '.', joiner, '2'}, []int{0, 5}},
		{"rule 10", []rune("1."), []int{0, 1, 2}},
		{"rule 10", []rune("1.a"), []int{0, 1, 2, 3}},
		{"rule 10", []rune("1..2"), []int{0, 1, 2, 3, 4}},
		{"rule 10", []rune("1:2"), []int{0, 1, 2, 3}},
		{"rule 11", []rune(".2"), []int{0, 1, 2}},
		{"rule 11", []rune("a.2"), []int{0, 1, 2, 3}},
		{"rule 12", []rune{katakana, acute, 0x30FC, 'a'}, []int{0, 3, 4}},
		{"rule 13", []rune("a_1__\u30A2_ _"), []int{0, 7, 8, 9}},
		{"rule 13", []rune{'a', acute, '_', joiner, 'b'}, []int{0, 5}},
		{"rule 13", []rune("._:_"), []int{0, 1, 2, 3, 4}},
		{"rule 14", []rune{regional, flag, regional, flag, regional}, []int{0, 2, 4, 5}},
		{"rule 14", []rune{regional, acute, flag, joiner, regional, 'a', flag, regional}, []int{0, 4, 5, 6, 8}},
		{"rule 15", []rune{'a', katakana, '1', picture, picture, '-', ' ', '-'}, []int{0, 1, 2, 3, 4, 5, 6, 7, 8}},
		{"Extend at the beginning", []rune{acute, acute, 'a'}, []int{0, 2, 3}},
		{"Extend at the beginning", []rune{acute, '1', '.', '2'}, []int{0, 1, 4}},
		{"no rune", []rune{-1, acute, math.MaxInt32, 0xD800}, []int{0, 2, 3, 4}},
	})
}

func TestTextsWithoutBoundaries(t *testing.T) {
	for _, text := range [][]rune{nil, {}, make([]rune, api.MaxText+1), make([]rune, 1000000)} {
		if c, w := Clusters(text), Words(text); len(c) != 0 || len(w) != 0 {
			t.Errorf("P4.1, P4.2: %d runes have %d and %d boundaries", len(text), len(c), len(w))
		}
		for _, at := range []int{math.MinInt, -1, 0, 1, api.MaxText, math.MaxInt} {
			checkMoves(t, text, at, [4]int{})
		}
	}
}

func TestLongestText(t *testing.T) {
	text := make([]rune, api.MaxText)
	for i := range text {
		text[i] = 'a'
	}
	if c, w := Clusters(text), Words(text); len(c) != api.MaxText+1 || !slices.Equal(w, []int{0, api.MaxText}) {
		t.Errorf("P4.1, P4.2: the longest text has %d boundaries of clusters, and those of words are %v", len(c), w)
	}
	checkMoves(t, text, 5, [4]int{6, 4, api.MaxText, 0})
}

func checkMoves(t *testing.T, text []rune, at int, want [4]int) {
	t.Helper()
	got := [4]int{Next(text, at), Previous(text, at), NextWord(text, at), PreviousWord(text, at)}
	if got != want {
		t.Errorf("P4.3: from %d in %x (at most 20 runes) the movements lead to %v, not %v", at, text[:min(20, len(text))], got, want)
	}
}

// The text of the movements: two clusters of two runes, and words of all the classes that movements stop at.
func TestMovements(t *testing.T) {
	// Positions:   0    1      2    3    4    5    6    7      8         9         10   11   12   13
	text := []rune{'-', 'a', acute, ' ', '.', '1', '_', '-', katakana, joiner, acute, ' ', '_', '\n'}
	length := len(text)
	for _, x := range []struct {
		at   int
		want [4]int // Next, Previous, NextWord, PreviousWord
	}{
		{math.MinInt, [4]int{0, 0, 3, 0}},
		{-1, [4]int{0, 0, 3, 0}},
		{0, [4]int{1, 0, 3, 0}},
		{1, [4]int{3, 0, 3, 0}},
		{2, [4]int{3, 1, 3, 1}},
		{3, [4]int{4, 1, 7, 1}},
		{5, [4]int{6, 4, 7, 1}},
		{6, [4]int{7, 5, 7, 5}},
		{7, [4]int{8, 6, 11, 5}},
		{8, [4]int{11, 7, 11, 5}},
		{9, [4]int{11, 8, 11, 8}},
		{11, [4]int{12, 8, 13, 8}},
		{12, [4]int{13, 11, 13, 8}},
		{13, [4]int{length, 12, length, 12}},
		{length, [4]int{length, 13, length, 12}},
		{length + 1, [4]int{length, length, length, 12}},
		{math.MaxInt, [4]int{length, length, length, 12}},
	} {
		checkMoves(t, text, x.at, x.want)
	}
}

func TestMovementsWithoutWords(t *testing.T) {
	for _, text := range [][]rune{{'-', '.', ' '}, {acute, joiner, ' '}, {'\n', acute, regional}, {picture, flag, ':'}} {
		for at := -1; at <= 4; at++ {
			if e, b := NextWord(text, at), PreviousWord(text, at); e != 3 || b != 0 {
				t.Errorf("P4.3: from %d in %x words end at %d and begin at %d", at, text, e, b)
			}
		}
	}
	// A word ends behind the runes that extend it, but those alone are no word.
	if e := NextWord([]rune{acute, 'a', joiner, mark, '-'}, 0); e != 4 {
		t.Errorf("P4.3: the word ends at %d, not 4", e)
	}
}

// chapterCluster decides a position by the rules of P4.1 as they stand in the chapter, looking back from the position.
func chapterCluster(t []rune, p int) bool {
	class := func(i int) int {
		if i < 0 {
			return -1
		}
		return char.Break(t[i])
	}
	is := func(c int, classes ...int) bool { return slices.Contains(classes, c) }
	a, b := class(p-1), class(p)
	pictures := func() bool {
		i := p - 1
		if class(i) != api.BreakZWJ {
			return false
		}
		for i--; class(i) == api.BreakExtend; i-- {
		}
		return class(i) == api.BreakPicture
	}
	regionals := 0
	for i := p - 1; class(i) == api.BreakRegional; i-- {
		regionals++
	}
	switch {
	case a == api.BreakCR && b == api.BreakLF:
		return false
	case is(a, api.BreakControl, api.BreakCR, api.BreakLF):
		return true
	case is(b, api.BreakControl, api.BreakCR, api.BreakLF):
		return true
	case a == api.BreakL && is(b, api.BreakL, api.BreakV, api.BreakLV, api.BreakLVT):
		return false
	case is(a, api.BreakLV, api.BreakV) && is(b, api.BreakV, api.BreakT):
		return false
	case is(a, api.BreakLVT, api.BreakT) && b == api.BreakT:
		return false
	case is(b, api.BreakExtend, api.BreakZWJ, api.BreakSpacing):
		return false
	case a == api.BreakPrepend:
		return false
	case b == api.BreakPicture && pictures():
		return false
	case a == api.BreakRegional && b == api.BreakRegional && regionals%2 == 1:
		return false
	}
	return true
}

// chapterUnits returns the classes of the runes of t that are not skipped, and where the runes stand among them.
func chapterUnits(t []rune) (units []int, unitOf []int) {
	for i, r := range t {
		c := char.Word(r)
		if extends := c == api.WordExtend || c == api.WordZWJ; !extends {
			units = append(units, c)
		} else if i == 0 || char.Word(t[i-1]) == api.WordNewline {
			units = append(units, api.WordOther)
		}
		unitOf = append(unitOf, len(units)-1)
	}
	return units, unitOf
}

// chapterWord decides a position by the rules of P4.2 as they stand in the chapter, on the list of the runes that are not skipped.
func chapterWord(t []rune, p int) bool {
	units, unitOf := chapterUnits(t)
	last, next := char.Word(t[p-1]), char.Word(t[p])
	switch {
	case t[p-1] == 0x0D && t[p] == 0x0A:
		return false
	case last == api.WordNewline || next == api.WordNewline:
		return true
	case last == api.WordZWJ && char.Break(t[p]) == api.BreakPicture:
		return false
	case last == api.WordSpace && next == api.WordSpace:
		return false
	case next == api.WordExtend || next == api.WordZWJ:
		return false
	}
	return chapterWordUnits(units, unitOf[p])
}

// chapterWordUnits decides by the rules 6 to 15 between the units u-1 and u.
func chapterWordUnits(units []int, u int) bool {
	unit := func(i int) int {
		if i < 0 || i >= len(units) {
			return -1
		}
		return units[i]
	}
	is := func(c int, classes ...int) bool { return slices.Contains(classes, c) }
	before, a, b, after := unit(u-2), unit(u-1), unit(u), unit(u+1)
	regionals := 0
	for i := u - 1; unit(i) == api.WordRegional; i-- {
		regionals++
	}
	switch {
	case a == api.WordLetter && b == api.WordLetter:
		return false
	case a == api.WordLetter && is(b, api.WordMid, api.WordMidBoth) && after == api.WordLetter:
		return false
	case is(a, api.WordMid, api.WordMidBoth) && b == api.WordLetter && before == api.WordLetter:
		return false
	case is(a, api.WordLetter, api.WordNumeric) && is(b, api.WordLetter, api.WordNumeric):
		return false
	case a == api.WordNumeric && is(b, api.WordMidNum, api.WordMidBoth) && after == api.WordNumeric:
		return false
	case is(a, api.WordMidNum, api.WordMidBoth) && b == api.WordNumeric && before == api.WordNumeric:
		return false
	case a == api.WordKatakana && b == api.WordKatakana:
		return false
	case is(a, api.WordLetter, api.WordNumeric, api.WordKatakana, api.WordConnect) && b == api.WordConnect:
		return false
	case a == api.WordConnect && is(b, api.WordLetter, api.WordNumeric, api.WordKatakana):
		return false
	case a == api.WordRegional && b == api.WordRegional && regionals%2 == 1:
		return false
	}
	return true
}

func chapterBoundaries(t []rune, divides func([]rune, int) bool) []int {
	want := []int{0}
	for p := 1; p < len(t); p++ {
		if divides(t, p) {
			want = append(want, p)
		}
	}
	return append(want, len(t))
}

// forTexts calls visit with every text of up to length runes of the alphabet.
func forTexts(alphabet []rune, length int, visit func([]rune)) {
	var text []rune
	var extend func()
	extend = func() {
		if len(text) > 0 {
			visit(text)
		}
		if len(text) == length {
			return
		}
		for _, r := range alphabet {
			text = append(text, r)
			extend()
			text = text[:len(text)-1]
		}
	}
	extend()
}

func TestClustersOfAllShortTexts(t *testing.T) {
	check := func(text []rune) {
		if got, want := Clusters(text), chapterBoundaries(text, chapterCluster); !slices.Equal(got, want) {
			t.Fatalf("P4.1: the clusters of %x are %v, not %v", text, got, want)
		}
	}
	forTexts([]rune{'a', '\r', '\n', mark, acute, joiner, regional, prepend, spacing, initial, vowel, final, syllable, closed, picture}, 4, check)
	forTexts([]rune{'a', picture, joiner, acute, regional}, 7, check)
}

func TestWordsOfAllShortTexts(t *testing.T) {
	check := func(text []rune) {
		if got, want := Words(text), chapterBoundaries(text, chapterWord); !slices.Equal(got, want) {
			t.Fatalf("P4.2: the words of %x are %v, not %v", text, got, want)
		}
	}
	forTexts([]rune{'-', '\r', '\n', separator, ' ', 'a', '1', ':', ',', '.', '_', katakana, acute, joiner, regional, picture}, 4, check)
	forTexts([]rune{'a', '1', '.', joiner, '\n'}, 6, check)
	forTexts([]rune{'a', regional, acute, '\n'}, 7, check)
}

func TestOrderOfBoundaries(t *testing.T) {
	forTexts([]rune{'a', '\r', '\n', acute, joiner, regional, picture, ' ', '.'}, 4, func(text []rune) {
		for _, list := range [][]int{Clusters(text), Words(text)} {
			if list[0] != 0 || list[len(list)-1] != len(text) {
				t.Fatalf("P4.4: %v does not go from one end of %x to the other", list, text)
			}
			for i := 1; i < len(list); i++ {
				if list[i-1] >= list[i] {
					t.Fatalf("P4.4: %v of %x is not strictly ascending", list, text)
				}
			}
		}
	})
}

// Movements from every position, compared with the lists of boundaries.
func TestMovementsOfAllShortTexts(t *testing.T) {
	forTexts([]rune{'a', '_', ' ', '\n', acute, joiner, katakana, picture}, 4, func(text []rune) {
		for at := -1; at <= len(text)+1; at++ {
			checkMoves(t, text, at, chapterMoves(text, at))
		}
	})
}

func chapterMoves(text []rune, at int) [4]int {
	stops := []int{api.WordLetter, api.WordNumeric, api.WordKatakana, api.WordConnect}
	want := [4]int{len(text), 0, len(text), 0}
	for _, p := range slices.Backward(Clusters(text)) {
		if p > at {
			want[0] = p
		}
	}
	for _, p := range Clusters(text) {
		if p < at {
			want[1] = p
		}
	}
	for _, p := range slices.Backward(Words(text)) {
		i := p - 1
		for i >= 0 && (char.Word(text[i]) == api.WordExtend || char.Word(text[i]) == api.WordZWJ) {
			i--
		}
		if p > at && i >= 0 && slices.Contains(stops, char.Word(text[i])) {
			want[2] = p
		}
	}
	for _, p := range Words(text) {
		if p < at && p < len(text) && slices.Contains(stops, char.Word(text[p])) {
			want[3] = p
		}
	}
	return want
}

func TestArgumentsAndResults(t *testing.T) {
	text := []rune("e\u0301a can't")
	kept := slices.Clone(text)
	first := Clusters(text)
	copied := slices.Clone(first)
	Words(text)[0] = 7
	Clusters(text)[0] = 7
	NextWord(text, 1)
	PreviousWord(text, 1)
	if !slices.Equal(text, kept) || !slices.Equal(first, copied) || Words(text)[0] != 0 {
		t.Errorf("R2: the text %x or an earlier result %v has changed", text, first)
	}
}
