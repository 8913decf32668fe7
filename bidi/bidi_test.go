package bidi

import (
	"math"
	"slices"
	"testing"

	"widgetry/api"
)

// The runes of the tests that are no printable ASCII runes.
const (
	hebrew  = 0x05D0 // R
	arabic  = 0x0627 // AL
	digit   = 0x0660 // AN
	mark    = 0x0301 // NSM
	hyphen  = 0x00AD // BN
	divider = 0x2029 // B
	lre     = 0x202A
	rle     = 0x202B
	pdf     = 0x202C
	lro     = 0x202D
	rlo     = 0x202E
	lri     = 0x2066
	rli     = 0x2067
	fsi     = 0x2068
	pdi     = 0x2069
)

const (
	auto  = api.BaseAuto
	left  = api.BaseLeft
	right = api.BaseRight
)

func TestBase(t *testing.T) {
	tests := []struct {
		what string
		t    []rune
		base int
		want int
	}{
		{"left", []rune{hebrew}, left, 0},
		{"right", []rune{'a'}, right, 1},
		{"no text", nil, auto, 0},
		{"no text, right", nil, right, 1},
		{"L", []rune{'1', ' ', 'a', hebrew}, auto, 0},
		{"R", []rune{'!', hebrew, 'a'}, auto, 1},
		{"AL", []rune{mark, arabic, 'a'}, auto, 1},
		{"numbers are not strong", []rune{'1', digit, '+'}, auto, 0},
		{"embeddings and overrides are not strong", []rune{rle, rlo, pdf, '1'}, auto, 0},
		{"embeddings hide nothing", []rune{lre, hebrew, pdf, 'a'}, auto, 1},
		{"a separator ends nothing", []rune{'1', divider, '\n', hebrew}, auto, 1},
		{"an isolate hides", []rune{rli, hebrew, pdi, 'a'}, auto, 0},
		{"an isolate hides", []rune{lri, 'a', pdi, hebrew}, auto, 1},
		{"an isolate hides", []rune{fsi, 'a', pdi, arabic}, auto, 1},
		{"an isolate in an isolate", []rune{lri, rli, 'a', pdi, 'a', pdi, hebrew}, auto, 1},
		{"no matching PDI", []rune{lri, hebrew}, auto, 0},
		{"no matching PDI for the outer isolate", []rune{rli, lri, pdi, hebrew}, auto, 0},
		{"a separator does not end an isolate", []rune{rli, divider, hebrew}, auto, 0},
		{"PDI without an initiator", []rune{pdi, pdi, lri, pdi, hebrew}, auto, 1},
		{"another base", []rune{hebrew}, 2, 1},
		{"another base", []rune{'a', hebrew}, math.MinInt, 0},
		{"no runes", []rune{-1, math.MaxInt32, hebrew}, auto, 0},
	}
	for _, x := range tests {
		if got := Base(x.t, x.base); got != x.want {
			t.Errorf("P6.1, %s: Base(%x, %d) is %d, not %d", x.what, x.t, x.base, got, x.want)
		}
	}
	long := append(make([]rune, 100000), hebrew)
	if Base(long, auto) != 1 {
		t.Error("P6.1: Base of a long text is not 1")
	}
}

type levelsTest struct {
	rule string
	t    []rune
	base int
	want []int
}

func checkLevels(t *testing.T, tests []levelsTest) {
	t.Helper()
	for _, x := range tests {
		if got := Levels(x.t, x.base); !slices.Equal(got, x.want) {
			t.Errorf("P6.2, %s: Levels(%x, %d) is %v, not %v", x.rule, x.t, x.base, got, x.want)
		}
	}
}

func TestLengths(t *testing.T) {
	checkLevels(t, []levelsTest{
		{"no text", nil, auto, nil},
		{"empty text", []rune{}, right, nil},
		{"example 1", []rune{hebrew, 'a'}, auto, []int{1, 2}},
		{"one rune", []rune{'a'}, right, []int{2}},
		{"no runes", []rune{-1, math.MaxInt32, math.MinInt32, 0xD800}, auto, []int{0, 0, 0, 0}},
		{"another base", []rune{hebrew, ' ', 'a'}, 7, []int{1, 1, 2}},
	})
	long := make([]rune, api.MaxText+1)
	for i := range long {
		long[i] = hebrew
	}
	if got := Levels(long, auto); len(got) != 0 {
		t.Errorf("P6.2: a text that is too long has %d levels", len(got))
	}
	if got := Levels(long[1:], auto); !slices.Equal(got, slices.Repeat([]int{1}, api.MaxText)) {
		t.Errorf("P6.2: the levels of the longest text are %v", got)
	}
}

func TestExplicitLevels(t *testing.T) {
	checkLevels(t, []levelsTest{
		{"RLE", []rune{rle, '!', 'a', pdf, '!'}, left, []int{0, 1, 2, 2, 0}},
		{"LRE", []rune{lre, 'a', hebrew, pdf, 'a'}, left, []int{0, 2, 3, 3, 0}},
		{"LRE in RLE", []rune{rle, lre, 'a', pdf, hebrew, pdf, 'a'}, left, []int{0, 0, 2, 2, 1, 1, 0}},
		{"RLE in RLE", []rune{rle, rle, hebrew, pdf, hebrew, pdf, 'a'}, left, []int{0, 0, 3, 3, 1, 1, 0}},
		{"RLO", []rune{rlo, 'a', '1', ' ', '!', pdf, 'a'}, left, []int{0, 1, 1, 1, 1, 1, 0}},
		{"LRO", []rune{lro, hebrew, digit, mark, pdf, hebrew}, right, []int{1, 2, 2, 2, 2, 1}},
		{"an override ends in an embedding", []rune{rlo, lre, hebrew, pdf, 'a'}, left, []int{0, 0, 3, 3, 1}},
		{"an override ends in an isolate", []rune{rlo, lri, hebrew, pdi, 'a'}, left, []int{0, 1, 3, 1, 1}},
		{"an override changes isolates", []rune{'a', rlo, lri, pdi, pdf, 'a'}, left, []int{0, 0, 1, 1, 1, 0}},
		{"PDF without an embedding", []rune{pdf, pdf, hebrew, 'a'}, left, []int{0, 0, 1, 0}},
		{"PDF does not end an isolate", []rune{rli, pdf, 'a', pdi, 'a'}, left, []int{0, 0, 2, 0, 0}},
		{"PDI ends embeddings", []rune{rli, rle, rlo, 'a', pdi, 'a', hebrew}, left, []int{0, 0, 0, 5, 0, 0, 1}},
		{"PDI without an isolate", []rune{rle, pdi, hebrew, 'a', pdf}, left, []int{0, 1, 1, 2, 0}},
		{"PDI gets the level and the override outside", []rune{rlo, 'a', lri, 'a', pdi, 'a'}, left, []int{0, 1, 1, 2, 1, 1}},
		{"RLI", []rune{'a', rli, 'a', '!', pdi, 'a'}, left, []int{0, 0, 2, 1, 0, 0}},
		{"LRI", []rune{hebrew, lri, hebrew, '!', pdi, hebrew}, right, []int{1, 1, 3, 2, 1, 1}},
		{"FSI as RLI", []rune{'a', fsi, '!', hebrew, 'a', pdi, 'a'}, left, []int{0, 0, 1, 1, 2, 0, 0}},
		{"FSI as LRI", []rune{'a', fsi, '!', 'b', hebrew, pdi, hebrew}, left, []int{0, 0, 2, 2, 3, 0, 1}},
		{"FSI without PDI", []rune{'a', fsi, '!', hebrew}, left, []int{0, 0, 1, 1}},
		{"FSI only looks up to its PDI", []rune{'a', fsi, '!', pdi, hebrew, 'a'}, left, []int{0, 0, 2, 0, 1, 0}},
		{"FSI looks past an isolate", []rune{fsi, lri, 'a', pdi, hebrew, 'a', pdi, 'a'}, left, []int{0, 1, 2, 1, 1, 2, 0, 0}},
		{"B gets the base level", []rune{rle, hebrew, divider, hebrew, 'a'}, left, []int{0, 1, 0, 1, 2}},
		{"B gets no override", []rune{'a', rlo, divider, 'a'}, left, []int{0, 0, 0, 1}},
	})
}

// repeated returns count times the runes r.
func repeated(count int, r ...rune) []rune { return slices.Repeat(r, count) }

// levelAfter returns the level of the last rune of the prefix followed by r.
func levelAfter(base int, r rune, prefix ...[]rune) int {
	text := append(slices.Concat(prefix...), r)
	return Levels(text, base)[len(text)-1]
}

func TestOverflow(t *testing.T) {
	full := repeated(62, rle, lre) // 124
	tests := []struct {
		what string
		got  int
		want int
	}{
		{"124 embeddings, L", levelAfter(left, 'a', full), 124},
		{"124 embeddings, number", levelAfter(left, '1', full, []rune{hebrew}), 126},
		{"125 embeddings", levelAfter(left, hebrew, full, []rune{rle}), 125},
		{"125 embeddings, L", levelAfter(left, 'a', full, []rune{rle}), 126},
		{"an embedding too deep", levelAfter(left, hebrew, full, []rune{rle, lre}), 125},
		{"an embedding of the same direction too deep", levelAfter(left, hebrew, full, []rune{rle, rle}), 125},
		{"an even level too deep", levelAfter(left, 'a', full, []rune{lre}), 124},
		{"an override too deep", levelAfter(left, hebrew, full, []rune{lro}), 125},
		{"no embedding after one that is too deep", levelAfter(left, hebrew, full, []rune{lre, rle}), 125},
		{"no embedding after one that is too deep", levelAfter(left, 'a', full, []rune{lre, rle}), 124},
		{"no isolate after an embedding that is too deep", levelAfter(left, 'a', full, []rune{lre, rli}), 124},
		{"PDF of an embedding too deep", levelAfter(left, 'a', full, []rune{lre, pdf}), 124},
		{"PDF after it", levelAfter(left, 'a', full, []rune{lre, pdf, pdf}), 124},
		{"PDF after it, R", levelAfter(left, hebrew, full, []rune{lre, pdf, pdf}), 123},
		{"two embeddings too deep", levelAfter(left, hebrew, full, []rune{lre, lre, pdf, pdf}), 125},
		{"an isolate too deep", levelAfter(left, 'a', full, []rune{lri}), 124},
		{"PDI of an isolate too deep", levelAfter(left, 'a', full, []rune{lri, pdi}), 124},
		{"PDF in an isolate too deep", levelAfter(left, hebrew, full, []rune{lri, pdf, pdi}), 125},
		{"an embedding in an isolate too deep", levelAfter(left, hebrew, full, []rune{lri, rle, pdi, pdf}), 123},
		{"an isolate in an isolate too deep", levelAfter(left, hebrew, full, []rune{lri, rli, pdi, pdf, pdi, pdf}), 123},
		{"the isolate of the greatest level", levelAfter(left, hebrew, full, []rune{rli}), 125},
		{"PDI ends embeddings too deep", levelAfter(left, hebrew, []rune{rli}, repeated(62, lre, rle), []rune{lre, lre, pdi, rle}), 1},
		{"PDI ends only its own embeddings", levelAfter(left, hebrew, []rune{rle, lri}, repeated(62, rle, lre), []rune{pdi}), 1},
		{"from the right", levelAfter(right, hebrew, repeated(62, lre, rle)), 125},
		{"from the right, too deep", levelAfter(right, hebrew, repeated(63, lre, rle)), 125},
	}
	for _, x := range tests {
		if x.got != x.want {
			t.Errorf("P6.2, explicit levels, %s: the level is %d, not %d", x.what, x.got, x.want)
		}
	}
}

func TestSequences(t *testing.T) {
	checkLevels(t, []levelsTest{
		{"an isolate is neutral outside", []rune{hebrew, lri, 'a', pdi, hebrew}, left, []int{1, 1, 2, 1, 1}},
		{"an isolate is neutral outside", []rune{'a', rli, hebrew, pdi, '1', hebrew}, right, []int{2, 2, 3, 2, 2, 1}},
		{"what stands in an isolate does not touch numbers", []rune{arabic, lri, 'a', pdi, '1'}, left, []int{1, 1, 2, 1, 2}},
		{"three runs", []rune{hebrew, lri, 'a', pdi, rli, hebrew, pdi, hebrew}, left, []int{1, 1, 2, 1, 1, 1, 1, 1}},
		{"removed runes do not divide runs", []rune{hebrew, hyphen, rle, pdf, ',', hebrew}, left, []int{1, 1, 1, 1, 1, 1}},
		{"a removed rune between an initiator and its PDI", []rune{hebrew, lri, hyphen, pdi, hebrew}, left, []int{1, 1, 1, 1, 1}},
		{"start and end class of a higher level", []rune{rle, '!', pdf, 'a'}, left, []int{0, 1, 1, 0}},
		{"the start class comes from the higher level before", []rune{rle, hebrew, pdf, '!', hebrew}, left, []int{0, 1, 1, 1, 1}},
		{"the end class comes from the higher level after", []rune{hebrew, '!', rle, hebrew}, left, []int{1, 1, 1, 1}},
		{"removed runes do not count at the start", []rune{rle, hebrew, pdf, hyphen, '!', hebrew}, left, []int{0, 1, 1, 1, 1, 1}},
		{"the end class after an initiator without PDI", []rune{hebrew, '!', rli, hebrew, 'a'}, left, []int{1, 0, 0, 1, 2}},
		{"the beginning of the text", []rune{'!', hebrew}, left, []int{0, 1}},
		{"the end of the text", []rune{'a', '!'}, right, []int{2, 1}},
		{"B in an isolate, the run of the PDI", []rune{hebrew, lri, divider, 'a', pdi, hebrew}, left, []int{1, 0, 0, 2, 0, 1}},
		{"B in an isolate, the PDI within a run", []rune{hebrew, lri, 'a', divider, pdi, hebrew}, left, []int{1, 0, 2, 0, 0, 1}},
	})
}

func TestWeakClasses(t *testing.T) {
	checkLevels(t, []levelsTest{
		{"W1", []rune{hebrew, mark, mark, 'a', mark}, left, []int{1, 1, 1, 0, 0}},
		{"W1, start class", []rune{mark, 'a'}, right, []int{1, 2}},
		{"W1, start class", []rune{mark, hebrew}, left, []int{0, 1}},
		{"W1, after PDI", []rune{hebrew, lri, pdi, mark, 'a'}, left, []int{1, 0, 0, 0, 0}},
		{"W1, after PDI", []rune{'a', rli, hebrew, pdi, mark, 'a'}, right, []int{2, 2, 3, 2, 2, 2}},
		{"W1, in the sequence", []rune{'a', lri, hebrew, pdi, mark}, left, []int{0, 0, 3, 0, 0}},
		{"W1, at the beginning of an isolate", []rune{'a', rli, mark, pdi}, left, []int{0, 0, 1, 0}},
		{"W1, after a number", []rune{hebrew, '1', mark, digit, mark}, left, []int{1, 2, 2, 2, 2}},
		{"W1, after a neutral rune", []rune{hebrew, '!', mark, hebrew, ' ', mark, 'a'}, left, []int{1, 1, 1, 1, 0, 0, 0}},
		{"W1, after ET", []rune{hebrew, '$', mark, '1'}, left, []int{1, 2, 2, 2}},
		{"W2", []rune{arabic, '1', '+', '1'}, left, []int{1, 2, 1, 2}},
		{"W2", []rune{arabic, ' ', '$', '1', 'a', '1'}, left, []int{1, 1, 1, 2, 0, 0}},
		{"W2", []rune{arabic, hebrew, '1', '+', '1'}, left, []int{1, 1, 2, 2, 2}},
		{"W2 goes before W3", []rune{arabic, '1', hebrew, '1', '+', '1'}, right, []int{1, 2, 1, 2, 2, 2}},
		{"W3", []rune{'a', arabic, '!', hebrew}, left, []int{0, 1, 1, 1}},
		{"W4, ES", []rune{hebrew, '1', '+', '1'}, left, []int{1, 2, 2, 2}},
		{"W4, CS", []rune{hebrew, '1', ',', '1'}, left, []int{1, 2, 2, 2}},
		{"W4, CS between AN", []rune{hebrew, digit, ',', digit}, left, []int{1, 2, 2, 2}},
		{"W4, ES between AN", []rune{hebrew, digit, '+', digit}, left, []int{1, 2, 1, 2}},
		{"W4, two ES", []rune{hebrew, '1', '+', '+', '1'}, left, []int{1, 2, 1, 1, 2}},
		{"W4, ES and CS", []rune{hebrew, '1', '+', ',', '1'}, left, []int{1, 2, 1, 1, 2}},
		{"W4, EN and AN", []rune{hebrew, '1', ',', digit, ',', '1'}, left, []int{1, 2, 1, 2, 1, 2}},
		{"W4, one after the other", []rune{hebrew, '1', ',', '1', '+', '1'}, left, []int{1, 2, 2, 2, 2, 2}},
		{"W4, at the ends", []rune{',', '1', ','}, right, []int{1, 2, 1}},
		{"W5, before", []rune{hebrew, '$', '#', '1'}, left, []int{1, 2, 2, 2}},
		{"W5, after", []rune{hebrew, '1', '#', '$', 'a'}, left, []int{1, 2, 2, 2, 0}},
		{"W5, AN", []rune{hebrew, digit, '$', digit}, left, []int{1, 2, 1, 2}},
		{"W5, not through another class", []rune{hebrew, '$', ' ', '1'}, left, []int{1, 1, 1, 2}},
		{"W5, W4 does not look at ET", []rune{hebrew, '1', '+', '$', '1'}, left, []int{1, 2, 1, 2, 2}},
		{"W5, both sides", []rune{hebrew, '1', '$', '1', '$'}, left, []int{1, 2, 2, 2, 2}},
		{"W6", []rune{hebrew, '+', ',', '$', hebrew}, left, []int{1, 1, 1, 1, 1}},
		{"W6", []rune{'a', '+', ',', '$', 'a'}, right, []int{2, 2, 2, 2, 2}},
		{"W6", []rune{hebrew, '+', '1'}, left, []int{1, 1, 2}},
		{"W7", []rune{'a', '1'}, right, []int{2, 2}},
		{"W7", []rune{'a', ' ', '1', hebrew, '1'}, left, []int{0, 0, 0, 1, 2}},
		{"W7, start class", []rune{'1'}, left, []int{0}},
		{"W7, start class", []rune{'1'}, right, []int{2}},
		{"W7, AN stays", []rune{'a', digit}, left, []int{0, 2}},
	})
}

func TestBrackets(t *testing.T) {
	checkLevels(t, []levelsTest{
		{"N0, the direction of the level inside", []rune{hebrew, '(', hebrew, 'a', ')', hebrew}, left, []int{1, 0, 1, 0, 0, 1}},
		{"N0, the direction of the level inside", []rune{'a', '(', 'a', hebrew, ')', 'a'}, right, []int{2, 1, 2, 1, 1, 2}},
		{"N0, the other direction inside and before", []rune{hebrew, '(', hebrew, ')', 'a'}, left, []int{1, 1, 1, 1, 0}},
		{"N0, the other direction only inside", []rune{'a', '(', hebrew, ')', hebrew}, left, []int{0, 0, 1, 0, 1}},
		{"N0, the start class before", []rune{'(', hebrew, ')', hebrew}, left, []int{0, 1, 0, 1}},
		{"N0, the start class before", []rune{rle, '(', 'a', ')', 'a'}, left, []int{0, 1, 2, 1, 2}},
		{"N0, nothing strong inside", []rune{hebrew, '(', '!', ')', hebrew}, left, []int{1, 1, 1, 1, 1}},
		{"N0, nothing strong inside", []rune{'a', '(', ')', hebrew}, left, []int{0, 0, 0, 1}},
		{"N0, numbers inside", []rune{'a', '(', '1', ')', 'a'}, right, []int{2, 2, 2, 2, 2}},
		{"N0, numbers inside", []rune{hebrew, '(', '1', ')', 'a'}, left, []int{1, 1, 2, 1, 0}},
		{"N0, AN inside", []rune{'a', '(', digit, ')', 'a'}, right, []int{2, 1, 2, 1, 2}},
		{"N0, a number before", []rune{hebrew, '1', '(', hebrew, ')', 'a'}, left, []int{1, 2, 1, 1, 1, 0}},
		{"N0, AN before", []rune{'a', digit, '(', hebrew, ')', 'a'}, left, []int{0, 2, 1, 1, 1, 0}},
		{"N0, different brackets", []rune{hebrew, '(', hebrew, ']', 'a'}, left, []int{1, 1, 1, 0, 0}},
		{"N0, crossing brackets", []rune{hebrew, '[', '(', 'a', ']', ')', hebrew}, left, []int{1, 0, 0, 0, 0, 0, 1}},
		{"N0, the last opening bracket", []rune{hebrew, '(', '(', hebrew, ')', 'a'}, left, []int{1, 1, 1, 1, 1, 0}},
		{"N0, an opening bracket alone", []rune{'a', '(', hebrew, 'a'}, left, []int{0, 0, 1, 0}},
		{"N0, a closing bracket first", []rune{hebrew, ')', '(', 'a', hebrew}, left, []int{1, 0, 0, 0, 1}},
		{"N0, the outer pair first", []rune{hebrew, '(', 'a', '[', hebrew, ']', ')', hebrew}, left, []int{1, 0, 0, 0, 1, 0, 0, 1}},
		{"N0, brackets are strong for later ones", []rune{'a', '(', hebrew, ')', '[', hebrew, ']', '!', hebrew}, left, []int{0, 0, 1, 0, 0, 1, 0, 0, 1}},
		{"N0, an inner pair sees the outer one", []rune{'a', hebrew, '(', '[', hebrew, ']', 'a', ')'}, left, []int{0, 1, 0, 0, 1, 0, 0, 0}},
		{"N0, not through an isolate", []rune{hebrew, '(', lri, 'a', pdi, ')', 'a'}, left, []int{1, 0, 0, 2, 0, 0, 0}},
		{"N0, in one sequence", []rune{hebrew, '(', rli, hebrew, pdi, 'a', ')', hebrew}, left, []int{1, 0, 0, 1, 0, 0, 0, 1}},
		{"N0, marks after a bracket", []rune{'a', '(', hebrew, ')', mark, mark, hebrew}, left, []int{0, 0, 1, 0, 0, 0, 1}},
		{"N0, marks after the opening bracket", []rune{hebrew, '(', mark, hebrew, 'a', ')', mark, '!', hebrew}, left, []int{1, 0, 0, 1, 0, 0, 0, 0, 1}},
		{"N0, marks after a bracket that stays neutral", []rune{hebrew, '(', mark, ')', mark, hebrew}, left, []int{1, 1, 1, 1, 1, 1}},
		{"N0, only marks directly after", []rune{'a', '(', hebrew, ')', '!', mark, hebrew, '!', hebrew}, left, []int{0, 0, 1, 0, 0, 0, 1, 1, 1}},
		{"N0, overridden brackets", []rune{rlo, '(', 'a', ')', pdf, 'a'}, left, []int{0, 1, 1, 1, 1, 0}},
		{"N0, an overridden opening bracket", []rune{rlo, '(', pdf, rle, 'a', ')', 'a'}, left, []int{0, 1, 1, 1, 2, 2, 2}},
		{"N0, an overridden closing bracket", []rune{rle, 'a', '(', 'a', pdf, rlo, ')'}, left, []int{0, 2, 2, 2, 2, 2, 1}},
		{"N0, other brackets", []rune{hebrew, 0x3008, 'a', 0x300A, hebrew, 0x300B, 0x3009, hebrew}, left, []int{1, 0, 0, 0, 1, 0, 0, 1}},
	})
}

func TestManyBrackets(t *testing.T) {
	nested := func(open int) []rune {
		return slices.Concat([]rune{hebrew}, repeated(open, '('), []rune{'a'}, repeated(open, ')'), []rune{hebrew})
	}
	if got := Levels(nested(63), right); got[1] != 1 || got[63] != 1 || got[65] != 1 || got[127] != 1 || got[64] != 2 {
		t.Errorf("P6.2, N0: 63 brackets: %v", got)
	}
	// With a pair, the bracket after the letter gets the direction of the level, although the letters around it have the other one.
	last := func(open int) int {
		text := slices.Concat([]rune{'a', '(', hebrew, 'a', ')', 'a'}, repeated(open, '['))
		return Levels(text, right)[4]
	}
	if got := last(63); got != 1 {
		t.Errorf("P6.2, N0: with 63 open brackets a pair before them gets the level %d, not 1", got)
	}
	if got := last(64); got != 2 {
		t.Errorf("P6.2, N0: with 64 open brackets a pair before them gets the level %d, not 2", got)
	}
	// The brackets of another sequence count for themselves.
	text := slices.Concat([]rune{'a', '(', hebrew, 'a', ')', 'a', lri}, repeated(64, '['), []rune{pdi})
	if got := Levels(text, right)[4]; got != 1 {
		t.Errorf("P6.2, N0: with 64 open brackets in another sequence a pair gets the level %d, not 1", got)
	}
}

func TestNeutralClasses(t *testing.T) {
	checkLevels(t, []levelsTest{
		{"N1, L", []rune{'a', '!', ' ', '!', 'a'}, right, []int{2, 2, 2, 2, 2}},
		{"N1, R", []rune{hebrew, '!', ' ', '!', hebrew}, left, []int{1, 1, 1, 1, 1}},
		{"N1, EN", []rune{hebrew, '!', '1', '!', hebrew}, left, []int{1, 1, 2, 1, 1}},
		{"N1, AN", []rune{digit, '!', digit}, left, []int{2, 1, 2}},
		{"N1, EN after L is L", []rune{'a', '!', '1'}, right, []int{2, 2, 2}},
		{"N1, the start class", []rune{'!', 'a'}, left, []int{0, 0}},
		{"N1, the start class", []rune{rle, '!', hebrew}, left, []int{0, 1, 1}},
		{"N1, B", []rune{hebrew, divider, hyphen, hebrew}, left, []int{1, 0, 1, 1}},
		{"N1, S", []rune{hebrew, '\t', hyphen, hebrew}, left, []int{1, 0, 1, 1}},
		{"N1, isolate classes", []rune{hebrew, pdi, lri, pdi, hebrew}, left, []int{1, 1, 1, 1, 1}},
		{"N2", []rune{'a', '!', hebrew}, left, []int{0, 0, 1}},
		{"N2", []rune{'a', '!', hebrew}, right, []int{2, 1, 1}},
		{"N2", []rune{hebrew, '!', 'a'}, left, []int{1, 0, 0}},
		{"N2", []rune{rle, lre, 'a', '!', hebrew, pdf, pdf, 'a'}, left, []int{0, 0, 2, 2, 3, 3, 3, 0}},
	})
}

func TestFinalLevels(t *testing.T) {
	checkLevels(t, []levelsTest{
		{"even level", []rune{'a', hebrew, digit, '1'}, left, []int{0, 1, 2, 2}},
		{"odd level", []rune{hebrew, 'a', digit, '1'}, right, []int{1, 2, 2, 2}},
		{"even level 2", []rune{lre, 'a', hebrew, '1', digit}, left, []int{0, 2, 3, 4, 4}},
		{"odd level 1 by an embedding", []rune{rle, hebrew, '1', digit, 'a'}, left, []int{0, 1, 2, 2, 2}},
		{"removed runes", []rune{hyphen, hebrew, hyphen, hyphen, 'a', hyphen, 'a'}, left, []int{0, 1, 1, 1, 0, 0, 0}},
		{"removed runes at the beginning", []rune{rle, hyphen, hebrew}, right, []int{1, 1, 3}},
		{"S and B", []rune{hebrew, '\t', hebrew, '\n', hebrew}, left, []int{1, 0, 1, 0, 1}},
		{"S in an embedding", []rune{rle, hebrew, '\t', hebrew}, left, []int{0, 1, 0, 1}},
		{"white space at the end", []rune{hebrew, ' ', ' '}, left, []int{1, 0, 0}},
		{"white space at the end of an embedding", []rune{rle, hebrew, ' ', pdf, ' '}, left, []int{0, 1, 0, 0, 0}},
		{"white space before S", []rune{hebrew, ' ', hyphen, '\t', hebrew}, left, []int{1, 0, 0, 0, 1}},
		{"white space before B", []rune{hebrew, ' ', rle, lre, rlo, lro, pdf, '\n', 'a'}, left, []int{1, 0, 0, 0, 0, 0, 0, 0, 3}},
		{"isolates at the end", []rune{rle, hebrew, lri, rli, fsi, pdi, pdi, pdi}, left, []int{0, 1, 0, 0, 0, 0, 0, 0}},
		{"white space within the text", []rune{hebrew, ' ', hebrew, ' '}, left, []int{1, 1, 1, 0}},
		{"a mark after white space does not hang", []rune{hebrew, ' ', mark}, left, []int{1, 0, 0}},
		{"a mark after white space does not hang", []rune{rle, hebrew, ' ', mark}, left, []int{0, 1, 1, 1}},
		{"only what hangs", []rune{rle, ' ', lri, hyphen}, right, []int{1, 1, 1, 1}},
	})
}

func TestReset(t *testing.T) {
	text := []rune{hebrew, ' ', '1', ' ', '\t', hyphen, rli, pdi, '\n'}
	levels := []int{1, 2, 3, 4, 5, 6, 7, 8, 9}
	tests := []struct {
		base, from, to int
		want           []int
	}{
		{0, 0, 9, []int{1, 2, 3, 0, 0, 0, 0, 0, 0}},
		{0, 0, 2, []int{1, 0}},
		{1, 0, 3, []int{1, 2, 3}},
		{-7, 1, 4, []int{2, 3, -7}},
		{1, 3, 8, []int{1, 1, 1, 1, 1}},
		{1, 4, 4, nil},
		{1, 0, 0, nil},
		{1, 9, 9, nil},
		{1, -1, 3, nil},
		{1, 3, 2, nil},
		{1, 0, 10, nil},
		{1, 10, 10, nil},
		{1, math.MinInt, math.MaxInt, nil},
	}
	for _, x := range tests {
		if got := Reset(text, levels, x.base, x.from, x.to); !slices.Equal(got, x.want) {
			t.Errorf("P6.3: Reset from %d to %d with the base %d is %v, not %v", x.from, x.to, x.base, got, x.want)
		}
	}
	if got := Reset(text, levels[:8], 0, 0, 3); len(got) != 0 {
		t.Errorf("P6.3: Reset with too few levels is %v", got)
	}
	if got := Reset(text[:8], levels, 0, 0, 3); len(got) != 0 {
		t.Errorf("P6.3: Reset with too many levels is %v", got)
	}
	for _, r := range []rune{' ', 0x3000, fsi, lri, rli, pdi, hyphen, 0, rle, lre, rlo, lro, pdf, '\t', '\n', divider} {
		if got := Reset([]rune{'a', r}, []int{4, 4}, 1, 0, 2); !slices.Equal(got, []int{4, 1}) {
			t.Errorf("P6.3: Reset of a, %x is %v", r, got)
		}
	}
	for _, r := range []rune{'a', hebrew, arabic, '1', '+', '$', digit, ',', mark, '!'} {
		if got := Reset([]rune{' ', r}, []int{4, 4}, 1, 0, 2); !slices.Equal(got, []int{4, 4}) {
			t.Errorf("P6.3: Reset of a space, %x is %v", r, got)
		}
	}
}

func TestOrderAndRuns(t *testing.T) {
	tests := []struct {
		levels, order, runs []int
	}{
		{nil, nil, nil},
		{[]int{0}, []int{0}, []int{1}},
		{[]int{1, 2}, []int{1, 0}, []int{1, 2}},
		{[]int{0, 0, 0}, []int{0, 1, 2}, []int{3}},
		{[]int{4, 4, 4}, []int{0, 1, 2}, []int{3}},
		{[]int{1, 1, 1}, []int{2, 1, 0}, []int{3}},
		{[]int{127, 127}, []int{1, 0}, []int{2}},
		{[]int{126, 126, 0}, []int{0, 1, 2}, []int{2, 3}},
		{[]int{0, 1, 1, 2, 2, 1, 0}, []int{0, 5, 3, 4, 2, 1, 6}, []int{1, 3, 5, 6, 7}},
		{[]int{2, 2, 3, 3}, []int{0, 1, 3, 2}, []int{2, 4}},
		{[]int{3, 0, 3, 4, 4}, []int{0, 1, 3, 4, 2}, []int{1, 2, 3, 5}},
		{[]int{1, 3, 5, 5, 2}, []int{3, 2, 1, 4, 0}, []int{1, 2, 4, 5}},
		{[]int{0, 2, 1, 2, 0}, []int{0, 3, 2, 1, 4}, []int{1, 2, 3, 4, 5}},
		{[]int{-1}, nil, []int{1}},
		{[]int{0, 128}, nil, []int{1, 2}},
		{[]int{1, 1, math.MinInt, math.MaxInt}, nil, []int{2, 3, 4}},
	}
	for _, x := range tests {
		if got := Order(x.levels); !slices.Equal(got, x.order) {
			t.Errorf("P6.4: Order(%v) is %v, not %v", x.levels, got, x.order)
		}
		if got := Runs(x.levels); !slices.Equal(got, x.runs) {
			t.Errorf("P6.4: Runs(%v) is %v, not %v", x.levels, got, x.runs)
		}
	}
	long := make([]int, api.MaxText+1)
	if got := Order(long); len(got) != 0 {
		t.Errorf("P6.4: Order of too many levels has %d indices", len(got))
	}
	if got := Order(long[1:]); len(got) != api.MaxText {
		t.Errorf("P6.4: Order of the greatest number of levels has %d indices", len(got))
	}
	if got := Runs(long); !slices.Equal(got, []int{api.MaxText + 1}) {
		t.Errorf("P6.4: Runs of many levels is %v", got)
	}
}

func TestOrderIsPermutation(t *testing.T) {
	long := make([]int, api.MaxText)
	for i := range long {
		long[i] = i * i % 128
	}
	checkPermutation(t, long, Order(long))
	for level := 0; level <= 127; level++ {
		order := Order([]int{level, level, level})
		want := []int{0, 1, 2}
		if level%2 == 1 {
			want = []int{2, 1, 0}
		}
		if !slices.Equal(order, want) {
			t.Errorf("P6.5: the order of three runes of the level %d is %v", level, order)
		}
	}
}

func TestValues(t *testing.T) {
	text := []rune{hebrew, '(', '1', rle, 'a', pdf, ')', ' '}
	given := slices.Clone(text)
	first, second := Levels(text, auto), Levels(text, auto)
	wanted := slices.Clone(first)
	first[0], first[7] = 99, 99
	if !slices.Equal(text, given) || !slices.Equal(second, wanted) {
		t.Errorf("R2: Levels has changed its argument to %x or its result to %v", text, second)
	}
	line := Reset(text, second, 0, 0, len(text))
	line[0] = 99
	order := Order(second)
	order[0] = 99
	ends := Runs(second)
	ends[0] = 99
	if !slices.Equal(text, given) || !slices.Equal(second, wanted) {
		t.Errorf("R2: Reset, Order or Runs has changed its arguments to %x, %v", text, second)
	}
}
