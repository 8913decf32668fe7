package linebreak

import (
	"math"
	"slices"
	"testing"

	"widgetry/api"
	"widgetry/char"
	"widgetry/segment"
)

// The runes of the tests that are no printable ASCII runes.
const (
	acute     = 0x0301  // CM that extends a cluster
	spacing   = 0x0903  // CM that extends a cluster
	mark      = 0x200E  // CM that is a cluster of its own
	joiner    = 0x200D  // ZWJ
	separator = 0x2028  // BK
	zero      = 0x200B  // ZW
	word      = 0x2060  // WJ, a cluster of its own
	glue      = 0x00A0  // GL
	quote     = 0x00AB  // QU
	prepend   = 0x0600  // AL that forms a cluster with the rune after it
	initial   = 0x1100  // ID that forms a cluster with a vowel
	vowel     = 0x1160  // ID
	kanji     = 0x4E00  // ID
	picture   = 0x1F600 // ID
	regional  = 0x1F1E6 // RI
	flag      = 0x1F1FF // RI
)

type breakTest struct {
	rule string
	t    []rune
	want []int
}

func checkBreaks(t *testing.T, tests []breakTest) {
	t.Helper()
	for _, x := range tests {
		if got := Breaks(x.t); !slices.Equal(got, x.want) {
			t.Errorf("P5.1, %s: the breaks of %x are %v, not %v", x.rule, x.t, got, x.want)
		}
	}
}

func TestLengths(t *testing.T) {
	checkBreaks(t, []breakTest{
		{"no text", nil, nil},
		{"empty text", []rune{}, nil},
		{"one rune", []rune{'a'}, []int{2}},
		{"one space", []rune{' '}, []int{2}},
		{"one mark", []rune{acute}, []int{2}},
		{"one joiner", []rune{joiner}, []int{2}},
		{"one line feed", []rune{'\n'}, []int{2}},
		{"a rune that would prohibit a break", []rune{'a', '('}, []int{0, 2}},
	})
	for _, length := range []int{api.MaxText + 1, api.MaxText + 2, 1000000} {
		if got := Breaks(make([]rune, length)); len(got) != 0 {
			t.Errorf("P5.1: a text of %d runes has %d breaks", length, len(got))
		}
	}
}

func TestLongestText(t *testing.T) {
	text := make([]rune, api.MaxText)
	want := make([]int, api.MaxText)
	for i := range text {
		text[i], want[i] = kanji, api.Allowed
	}
	want[api.MaxText-1] = api.Mandatory
	if got := Breaks(text); !slices.Equal(got, want) {
		t.Errorf("P5.1: the breaks of the longest text are %v", got)
	}
}

func TestTakenClasses(t *testing.T) {
	checkBreaks(t, []breakTest{
		{"the mark takes OP", []rune{'(', acute, 'a'}, []int{0, 0, 2}},
		{"the mark takes OP before a space", []rune{'(', acute, ' ', kanji}, []int{0, 0, 0, 2}},
		{"the mark takes QU before a space", []rune{'"', mark, ' ', '('}, []int{0, 0, 0, 2}},
		{"the marks take ID", []rune{kanji, acute, acute, 'a'}, []int{0, 0, 1, 2}},
		{"the marks take AL", []rune{'a', mark, mark, spacing, 'a'}, []int{0, 0, 0, 0, 2}},
		{"the mark takes WJ", []rune{word, mark, kanji}, []int{0, 0, 2}},
		{"the mark takes GL", []rune{glue, mark, kanji}, []int{0, 0, 2}},
		{"the joiner takes NU", []rune{'1', joiner, mark, kanji}, []int{0, 0, 1, 2}},
		{"the mark takes what the joiner has taken", []rune{'-', joiner, mark, '1'}, []int{0, 0, 0, 2}},
		{"the mark takes what the joiner has taken", []rune{'-', joiner, mark, 'a'}, []int{0, 0, 1, 2}},
		{"the first rune is AL", []rune{acute, 'a'}, []int{0, 2}},
		{"the first rune is AL", []rune{mark, kanji}, []int{1, 2}},
		{"the second rune takes AL", []rune{mark, mark, '('}, []int{0, 0, 2}},
		{"the mark after BK is AL", []rune{separator, acute, '1'}, []int{2, 0, 2}},
		{"the mark after CR is AL", []rune{'\r', acute, '1'}, []int{2, 0, 2}},
		{"the mark after LF is AL", []rune{'\n', acute, '1'}, []int{2, 0, 2}},
		{"the mark after SP is AL", []rune{' ', mark, '1'}, []int{1, 0, 2}},
		{"the mark after OP and SP is AL", []rune{'(', ' ', mark, kanji}, []int{0, 0, 1, 2}},
		{"the mark after ZW is AL", []rune{zero, mark, '1'}, []int{1, 0, 2}},
		{"the mark after ZW is AL", []rune{zero, acute, ' ', '!'}, []int{1, 0, 0, 2}},
		{"the joiner after SP is AL", []rune{' ', joiner, mark, '1'}, []int{0, 0, 0, 2}},
	})
}

func TestRules1To8(t *testing.T) {
	checkBreaks(t, []breakTest{
		{"example 1", []rune("ab c"), []int{0, 0, 1, 2}},
		{"example 2", []rune("a\nb"), []int{0, 2, 2}},
		{"rule 1", []rune{'a', separator, 'b'}, []int{0, 2, 2}},
		{"rule 1", []rune{'\v', '\f', 0x85, 0x2029, '\n', '\n'}, []int{2, 2, 2, 2, 2, 2}},
		{"rule 1", []rune{'\r', '\r', 'a'}, []int{2, 2, 2}},
		{"rule 1", []rune{'\n', '\r', ' '}, []int{2, 2, 2}},
		{"rule 1", []rune{'\n', word, glue}, []int{2, 0, 2}},
		{"rule 1", []rune{'\r', zero}, []int{2, 2}},
		{"rule 1", []rune{separator, joiner}, []int{2, 2}},
		{"rule 2", []rune{'a', '\r', '\n', '\r', '\n', 'b'}, []int{0, 0, 2, 0, 2, 2}},
		{"rule 3", []rune{' ', '\n', '-', '\r', kanji, separator}, []int{0, 2, 0, 2, 0, 2}},
		{"rule 3", []rune{zero, '\n'}, []int{0, 2}},
		{"rule 4", []rune{kanji, ' ', ' ', zero, zero, ' ', 'a'}, []int{0, 0, 0, 0, 0, 1, 2}},
		{"rule 5", []rune{initial, vowel, initial}, []int{0, 1, 2}},
		{"rule 5", []rune{prepend, kanji, kanji}, []int{0, 1, 2}},
		{"rule 5", []rune{' ', acute}, []int{0, 2}},
		{"rule 5", []rune{' ', joiner}, []int{0, 2}},
		{"rule 6", []rune{zero, '!'}, []int{1, 2}},
		{"rule 6", []rune{zero, ' ', ' ', '!'}, []int{0, 0, 1, 2}},
		{"rule 6", []rune{'(', zero, word}, []int{0, 1, 2}},
		{"rule 6", []rune{zero, mark}, []int{1, 2}},
		{"rule 6", []rune{zero, ' ', joiner}, []int{0, 0, 2}},
		{"rule 6", []rune{zero, 'a', ' ', '!'}, []int{1, 0, 0, 2}},
		{"rule 7", []rune{kanji, joiner, kanji}, []int{0, 0, 2}},
		{"rule 7", []rune{' ', joiner, kanji}, []int{0, 0, 2}},
		{"rule 7", []rune{joiner, kanji}, []int{0, 2}},
		{"rule 7", []rune{kanji, joiner, acute, kanji}, []int{0, 0, 1, 2}},
		{"rule 7", []rune{zero, joiner, kanji}, []int{1, 0, 2}},
		{"rule 7", []rune{kanji, joiner, ' ', kanji}, []int{0, 0, 1, 2}},
		{"rule 8", []rune{kanji, mark, 0, 0x9F}, []int{0, 0, 0, 2}},
		{"rule 8", []rune{'-', mark}, []int{0, 2}},
	})
}

func TestRules9To15(t *testing.T) {
	checkBreaks(t, []breakTest{
		{"rule 9", []rune{kanji, word, kanji}, []int{0, 0, 2}},
		{"rule 9", []rune{' ', word, ' ', kanji}, []int{0, 0, 1, 2}},
		{"rule 9", []rune{'-', 0xFEFF, kanji}, []int{0, 0, 2}},
		{"rule 10", []rune{glue, kanji}, []int{0, 2}},
		{"rule 10", []rune{0x2007, 0x2011, picture}, []int{0, 0, 2}},
		{"rule 11", []rune{kanji, glue}, []int{0, 2}},
		{"rule 11", []rune{' ', glue}, []int{1, 2}},
		{"rule 11", []rune{'/', glue}, []int{1, 2}},
		{"rule 11", []rune{'-', glue}, []int{1, 2}},
		{"rule 11", []rune{'-', mark, glue}, []int{0, 1, 2}},
		{"rule 12", []rune{kanji, ')', kanji, '!', kanji, ':'}, []int{0, 1, 0, 1, 0, 2}},
		{"rule 12", []rune{' ', ')', ' ', '!', ' ', ':'}, []int{0, 0, 0, 0, 0, 2}},
		{"rule 13", []rune{'(', kanji}, []int{0, 2}},
		{"rule 13", []rune{'(', ' ', ' ', kanji}, []int{0, 0, 0, 2}},
		{"rule 13", []rune{'(', 'a', ' ', kanji}, []int{0, 0, 1, 2}},
		{"rule 13", []rune{'(', zero, ' ', kanji}, []int{0, 0, 1, 2}},
		{"rule 13", []rune{'(', '(', ' ', '(', regional}, []int{0, 0, 0, 0, 2}},
		{"rule 14", []rune{'"', '('}, []int{0, 2}},
		{"rule 14", []rune{quote, ' ', ' ', '['}, []int{0, 0, 0, 2}},
		{"rule 14", []rune{quote, ' ', kanji}, []int{0, 1, 2}},
		{"rule 14", []rune{quote, 'a', ' ', '('}, []int{0, 0, 1, 2}},
		{"rule 15", []rune{' ', '"', ' ', '/', ' ', '-', ' ', '1', ' ', '('}, []int{1, 0, 1, 0, 1, 0, 1, 0, 1, 2}},
		{"rule 15", []rune{' ', ' ', kanji, ' ', regional}, []int{0, 1, 0, 1, 2}},
	})
}

func TestRules16To24(t *testing.T) {
	checkBreaks(t, []breakTest{
		{"rule 16", []rune{kanji, quote, kanji, '\'', '"', regional}, []int{0, 0, 0, 0, 0, 2}},
		{"rule 17", []rune{kanji, '/', kanji, '-', kanji, 0x00AD, '-', 0x2014}, []int{0, 1, 0, 1, 0, 0, 0, 2}},
		{"rule 18", []rune("a1b"), []int{0, 0, 2}},
		{"rule 19", []rune("12-3:4"), []int{0, 0, 0, 0, 0, 2}},
		{"rule 19", []rune("1/2"), []int{0, 1, 2}},
		{"rule 20", []rune("ab\u05D0\u0628+c"), []int{0, 0, 0, 0, 0, 2}},
		{"rule 21", []rune("a.b,c"), []int{0, 0, 0, 0, 2}},
		{"rule 21", []rune{'.', kanji}, []int{1, 2}},
		{"rule 21", []rune("-a"), []int{1, 2}},
		{"rule 22", []rune("a(b)c"), []int{0, 0, 0, 0, 2}},
		{"rule 22", []rune("1[2]3"), []int{0, 0, 0, 0, 2}},
		{"rule 22", []rune(")("), []int{1, 2}},
		{"rule 22", []rune(".("), []int{1, 2}},
		{"rule 22", []rune{')', kanji, '('}, []int{1, 1, 2}},
		{"rule 23", []rune{regional, flag}, []int{0, 2}},
		{"rule 23", []rune{regional, flag, regional, flag, regional}, []int{0, 1, 0, 1, 2}},
		{"rule 23", []rune{kanji, regional, flag, regional}, []int{1, 0, 1, 2}},
		{"rule 23", []rune{regional, acute, flag, regional}, []int{0, 1, 0, 2}},
		{"rule 23", []rune{regional, joiner, flag, regional}, []int{0, 0, 0, 2}},
		{"rule 24", []rune{kanji, picture, 'a', kanji, '1', regional, 'a', '!', 'a'}, []int{1, 1, 1, 1, 1, 1, 0, 1, 2}},
		{"rule 24", []rune{'!', '1', kanji, '1', '/', '(', ')', '('}, []int{1, 1, 1, 0, 1, 0, 1, 2}},
		{"no rune", []rune{-1, math.MaxInt32, math.MinInt32, 0xD800, ' ', -1}, []int{0, 0, 0, 0, 1, 2}},
	})
}

// chapterClass returns the class of the rune i after it may have taken the one before it, and whether it has.
func chapterClass(t []rune, i int) (class int, taken bool) {
	class = char.Line(t[i])
	if class != api.LineCM && class != api.LineZWJ {
		return class, false
	}
	if i == 0 {
		return api.LineAL, false
	}
	before, _ := chapterClass(t, i-1)
	switch before {
	case api.LineBK, api.LineCR, api.LineLF, api.LineSP, api.LineZW:
		return api.LineAL, false
	}
	return before, true
}

// chapterStands returns whether a rune of the class wanted and any number of SP after it stand before the position p.
func chapterStands(t []rune, p int, wanted int) bool {
	for i := p - 1; i >= 0; i-- {
		class, _ := chapterClass(t, i)
		if class != api.LineSP {
			return class == wanted
		}
	}
	return false
}

// chapterRegionals counts the consecutive runes RI that end with the rune before the position p.
func chapterRegionals(t []rune, p int) int {
	count := 0
	for i := p - 1; i >= 0 && char.Line(t[i]) == api.LineRI; i-- {
		count++
	}
	return count
}

// chapterFirst decides a position by the rules 1 to 15 as they stand in the chapter; decided tells whether one of them applies.
func chapterFirst(t []rune, p int) (result int, decided bool) {
	a, _ := chapterClass(t, p-1)
	b, taken := chapterClass(t, p)
	is := func(class int, several ...int) bool { return slices.Contains(several, class) }
	switch {
	case is(a, api.LineBK, api.LineLF), a == api.LineCR && b != api.LineLF:
		return api.Mandatory, true
	case a == api.LineCR && b == api.LineLF:
		return api.Prohibited, true
	case is(b, api.LineBK, api.LineCR, api.LineLF):
		return api.Prohibited, true
	case is(b, api.LineSP, api.LineZW):
		return api.Prohibited, true
	case !slices.Contains(segment.Clusters(t), p):
		return api.Prohibited, true
	case chapterStands(t, p, api.LineZW):
		return api.Allowed, true
	case char.Line(t[p-1]) == api.LineZWJ:
		return api.Prohibited, true
	case taken:
		return api.Prohibited, true
	case a == api.LineWJ, b == api.LineWJ:
		return api.Prohibited, true
	case a == api.LineGL:
		return api.Prohibited, true
	case b == api.LineGL && !is(a, api.LineSP, api.LineBA, api.LineHY):
		return api.Prohibited, true
	case is(b, api.LineCL, api.LineEX, api.LineIS):
		return api.Prohibited, true
	case chapterStands(t, p, api.LineOP):
		return api.Prohibited, true
	case b == api.LineOP && chapterStands(t, p, api.LineQU):
		return api.Prohibited, true
	case a == api.LineSP:
		return api.Allowed, true
	}
	return 0, false
}

// chapterBreak decides a position by all the rules as they stand in the chapter.
func chapterBreak(t []rune, p int) int {
	if result, decided := chapterFirst(t, p); decided {
		return result
	}
	a, _ := chapterClass(t, p-1)
	b, _ := chapterClass(t, p)
	is := func(class int, several ...int) bool { return slices.Contains(several, class) }
	switch {
	case a == api.LineQU, b == api.LineQU:
		return api.Prohibited
	case is(b, api.LineBA, api.LineHY):
		return api.Prohibited
	case a == api.LineAL && b == api.LineNU, a == api.LineNU && b == api.LineAL:
		return api.Prohibited
	case is(a, api.LineNU, api.LineHY, api.LineIS) && b == api.LineNU:
		return api.Prohibited
	case a == api.LineAL && b == api.LineAL:
		return api.Prohibited
	case a == api.LineIS && b == api.LineAL:
		return api.Prohibited
	case is(a, api.LineAL, api.LineNU) && b == api.LineOP, a == api.LineCL && is(b, api.LineAL, api.LineNU):
		return api.Prohibited
	case char.Line(t[p-1]) == api.LineRI && char.Line(t[p]) == api.LineRI && chapterRegionals(t, p)%2 == 1:
		return api.Prohibited
	}
	return api.Allowed
}

func chapterBreaks(t []rune) []int {
	var want []int
	for p := 1; p < len(t); p++ {
		want = append(want, chapterBreak(t, p))
	}
	return append(want, api.Mandatory)
}

// oneOfEach returns a rune of each class, and one more where runes of a class differ in their clusters.
func oneOfEach() []rune {
	return []rune{'a', prepend, separator, '\r', '\n', ' ', zero, joiner, acute, mark, word, glue, '/', '-', '(', ')', '"', '!', '.', '1', kanji, picture, regional}
}

// forTexts calls visit with every text of up to length runes of the alphabet.
func forTexts(alphabet []rune, length int, visit func([]rune)) {
	var text []rune
	var extend func()
	extend = func() {
		if len(text) > 0 {
			visit(text)
		}
		if len(text) == length {
			return
		}
		for _, r := range alphabet {
			text = append(text, r)
			extend()
			text = text[:len(text)-1]
		}
	}
	extend()
}

func TestClassesOfOneOfEach(t *testing.T) {
	found := map[int]bool{}
	for _, r := range oneOfEach() {
		found[char.Line(r)] = true
	}
	for class := api.LineAL; class <= api.LineRI; class++ {
		if !found[class] {
			t.Errorf("no text of the tests has a rune of the class %d", class)
		}
	}
}

func TestBreaksOfAllShortTexts(t *testing.T) {
	check := func(text []rune) {
		if got, want := Breaks(text), chapterBreaks(text); !slices.Equal(got, want) {
			t.Fatalf("P5.1: the breaks of %x are %v, not %v", text, got, want)
		}
	}
	forTexts(oneOfEach(), 3, check)
	forTexts([]rune{'(', '"', ' ', zero, mark, kanji}, 6, check)
	forTexts([]rune{regional, joiner, acute, ' ', kanji}, 6, check)
	forTexts([]rune{'a', '1', '.', '-', ')', mark}, 5, check)
}

func TestBreaksBetweenClusters(t *testing.T) {
	forTexts(oneOfEach(), 3, func(text []rune) {
		clusters := segment.Clusters(text)
		for i, possible := range Breaks(text) {
			if possible != api.Prohibited && !slices.Contains(clusters, i+1) {
				t.Fatalf("P5.2: the position %d of %x is no boundary of %v, but a break is possible (%d)", i+1, text, clusters, possible)
			}
		}
	})
}

func checkParts(t *testing.T, text []rune) {
	t.Helper()
	whole := Breaks(text)
	for i, possible := range whole {
		if possible != api.Mandatory {
			continue
		}
		parts := slices.Concat(Breaks(text[:i+1]), Breaks(text[i+1:]))
		if !slices.Equal(parts, whole) {
			t.Fatalf("P5.2: the breaks of %x are %v, those of its parts at %d are %v", text, whole, i+1, parts)
		}
	}
}

func TestPartsBetweenMandatoryBreaks(t *testing.T) {
	check := func(text []rune) { checkParts(t, text) }
	forTexts(oneOfEach(), 3, check)
	forTexts([]rune{regional, '\n', '\r', acute, joiner, kanji}, 6, check)
	forTexts([]rune{'(', '"', ' ', separator, mark, zero}, 6, check)
}

func TestValues(t *testing.T) {
	text := []rune{'a', acute, ' ', '(', kanji, '\n', joiner}
	given := slices.Clone(text)
	first, second := Breaks(text), Breaks(text)
	if !slices.Equal(text, given) {
		t.Errorf("R2: Breaks has changed its argument to %x", text)
	}
	first[0] = api.Mandatory
	if want := []int{0, 0, 1, 0, 0, 2, 2}; !slices.Equal(second, want) {
		t.Errorf("R2: a result of Breaks is %v, not %v", second, want)
	}
}
