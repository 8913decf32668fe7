package char

import (
	"math"
	"strconv"
	"strings"
	"testing"

	"widgetry/api"
)

// chapter is the table of P3.1: the runes, and the classes Break, Word, Line, Bidi and Join.
const chapter = `
0000-0008 Control Other CM BN None
0009 Control Other BA S None
000A LF Newline LF B None
000B Control Newline BK S None
000C Control Newline BK WS None
000D CR Newline CR B None
000E-001F Control Other CM BN None
0020 Any Space SP WS None
0021 Any Other EX ON None
0022 Any Other QU ON None
0023-0025 Any Other AL ET None
0026 Any Other AL ON None
0027 Any MidBoth QU ON None
0028 Any Other OP ON None
0029 Any Other CL ON None
002A Any Other AL ON None
002B Any Other AL ES None
002C Any MidNum IS CS None
002D Any Other HY ES None
002E Any MidBoth IS CS None
002F Any Other BA CS None
0030-0039 Any Numeric NU EN None
003A Any Mid IS CS None
003B Any MidNum IS ON None
003C-003E Any Other AL ON None
003F Any Other EX ON None
0040 Any Other AL ON None
0041-005A Any Letter AL L None
005B Any Other OP ON None
005C Any Other AL ON None
005D Any Other CL ON None
005E Any Other AL ON None
005F Any Connect AL ON None
0060 Any Other AL ON None
0061-007A Any Letter AL L None
007B Any Other OP ON None
007C Any Other BA ON None
007D Any Other CL ON None
007E Any Other AL ON None
007F-0084 Control Other CM BN None
0085 Control Newline BK B None
0086-009F Control Other CM BN None
00A0 Any Other GL CS None
00A1 Any Other OP ON None
00A2-00A5 Any Other AL ET None
00A6-00A9 Any Other AL ON None
00AA Any Letter AL L None
00AB Any Other QU ON None
00AC Any Other AL ON None
00AD Control Extend BA BN Transparent
00AE-00B4 Any Other AL ON None
00B5 Any Letter AL L None
00B6 Any Other AL ON None
00B7 Any Mid AL ON None
00B8-00B9 Any Other AL ON None
00BA Any Letter AL L None
00BB Any Other QU ON None
00BC-00BF Any Other AL ON None
00C0-02FF Any Letter AL L None
0300-036F Extend Extend CM NSM Transparent
0370-058F Any Letter AL L None
0590-05BD Extend Extend CM NSM Transparent
05BE Any Other BA R None
05BF-05C7 Extend Extend CM NSM Transparent
05D0-05EA Any Letter AL R None
0600-0605 Prepend Other AL AN None
060C Any MidNum IS CS None
0610-061A Extend Extend CM NSM Transparent
061B Any Other EX AL None
061C Control Extend CM AL Transparent
061F Any Other EX AL None
0620 Any Letter AL AL Dual
0621 Any Letter AL AL None
0622-0625 Any Letter AL AL Right
0626 Any Letter AL AL Dual
0627 Any Letter AL AL Right
0628 Any Letter AL AL Dual
0629 Any Letter AL AL Right
062A-062E Any Letter AL AL Dual
062F-0632 Any Letter AL AL Right
0633-063F Any Letter AL AL Dual
0640 Any Letter AL AL Causing
0641-0647 Any Letter AL AL Dual
0648 Any Letter AL AL Right
0649-064A Any Letter AL AL Dual
064B-065F Extend Extend CM NSM Transparent
0660-0669 Any Numeric NU AN None
066A Any Other AL ET None
066B-066C Any MidNum IS AN None
0670 Extend Extend CM NSM Transparent
0671-0677 Any Letter AL AL Right
0678-0687 Any Letter AL AL Dual
0688-0699 Any Letter AL AL Right
069A-06BF Any Letter AL AL Dual
06C0-06CB Any Letter AL AL Right
06CC-06D3 Any Letter AL AL Dual
06D6-06DC Extend Extend CM NSM Transparent
06F0-06F9 Any Numeric NU EN None
0900-0902 Extend Extend CM NSM None
0903 Spacing Extend CM L None
0904-0939 Any Letter AL L None
093C Extend Extend CM NSM None
093E-0940 Spacing Extend CM L None
0941-0948 Extend Extend CM NSM None
0949-094C Spacing Extend CM L None
094D Extend Extend CM NSM None
0966-096F Any Numeric NU L None
1100-115F L Letter ID L None
1160-11A7 V Letter ID L None
11A8-11FF T Letter ID L None
2000-2006 Any Space BA WS None
2007 Any Other GL WS None
2008-200A Any Space BA WS None
200B Control Other ZW BN None
200C Extend Extend CM BN None
200D ZWJ ZWJ ZWJ BN Causing
200E Control Extend CM L Transparent
200F Control Extend CM R Transparent
2010 Any Other BA ON None
2011 Any Other GL ON None
2012-2014 Any Other BA ON None
2015-2017 Any Other AL ON None
2018 Any Other QU ON None
2019 Any MidBoth QU ON None
201A Any Other OP ON None
201C-201D Any Other QU ON None
2028 Control Newline BK WS None
2029 Control Newline BK B None
202A Control Extend CM LRE Transparent
202B Control Extend CM RLE Transparent
202C Control Extend CM PDF Transparent
202D Control Extend CM LRO Transparent
202E Control Extend CM RLO Transparent
2030-2034 Any Other AL ET None
203F-2040 Any Connect AL ON None
2060 Control Extend WJ BN Transparent
2066 Control Extend CM LRI None
2067 Control Extend CM RLI None
2068 Control Extend CM FSI None
2069 Control Extend CM PDI None
20A0-20CF Any Other AL ET None
20D0-20F0 Extend Extend CM NSM Transparent
2190-22FF Any Other AL ON None
2600-27BF Picture Other ID ON None
3000 Any Space BA WS None
3001-3002 Any Other CL ON None
3005-3007 Any Other ID L None
3008 Any Other OP ON None
3009 Any Other CL ON None
300A Any Other OP ON None
300B Any Other CL ON None
300C Any Other OP ON None
300D Any Other CL ON None
300E Any Other OP ON None
300F Any Other CL ON None
3010 Any Other OP ON None
3011 Any Other CL ON None
3041-3096 Any Other ID L None
3099-309A Extend Extend CM NSM Transparent
30A1-30FA Any Katakana ID L None
30FC Any Katakana ID L None
3400-9FFF Any Other ID L None
FB1D-FB4F Any Letter AL R None
FB50-FDFF Any Letter AL AL None
FE00-FE0F Extend Extend CM NSM Transparent
FE70-FEFC Any Letter AL AL None
FEFF Control Extend WJ BN Transparent
1F1E6-1F1FF Regional Regional RI L None
1F300-1F3FA Picture Other ID ON None
1F3FB-1F3FF Extend Extend CM ON Transparent
1F400-1FAFF Picture Other ID ON None
20000-3FFFD Any Other ID L None
E0100-E01EF Extend Extend CM NSM Transparent
`

// The names of the classes, at their numbers.
const (
	breakNames = "Any CR LF Control Extend ZWJ Regional Prepend Spacing L V T LV LVT Picture"
	wordNames  = "Other Newline Space Letter Numeric Mid MidNum MidBoth Connect Katakana Extend ZWJ Regional"
	lineNames  = "AL BK CR LF SP ZW ZWJ CM WJ GL BA HY OP CL QU EX IS NU ID RI"
	bidiNames  = "L R AL EN ES ET AN CS NSM BN B S WS ON LRE LRO RLE RLO PDF LRI RLI FSI PDI"
	joinNames  = "None Right Dual Causing Transparent"
)

// others are the classes of the runes that the chapter does not mention.
const others = "Any Other AL L None"

// named returns the names of the classes that the package gives r.
func named(r rune) string {
	name := func(names string, class int) string {
		all := strings.Fields(names)
		if class < 0 || class >= len(all) {
			return strconv.Itoa(class)
		}
		return all[class]
	}
	return strings.Join([]string{
		name(breakNames, Break(r)), name(wordNames, Word(r)), name(lineNames, Line(r)), name(bidiNames, Bidi(r)), name(joinNames, Joining(r)),
	}, " ")
}

// mentioned returns the classes that the chapter gives the runes that it mentions.
func mentioned(t *testing.T) map[rune]string {
	t.Helper()
	all := map[rune]string{}
	for line := range strings.Lines(strings.TrimSpace(chapter)) {
		runes, names, _ := strings.Cut(strings.TrimSpace(line), " ")
		from, to, several := strings.Cut(runes, "-")
		if !several {
			to = from
		}
		first, e1 := strconv.ParseInt(from, 16, 32)
		last, e2 := strconv.ParseInt(to, 16, 32)
		if e1 != nil || e2 != nil || first > last {
			t.Fatalf("row %q", line)
		}
		for r := rune(first); r <= rune(last); r++ {
			all[r] = names
		}
	}
	for r := rune(0xAC00); r <= 0xD7A3; r++ {
		all[r] = "LVT Letter ID L None"
	}
	for r := rune(0xAC00); r <= 0xD7A3; r += 28 {
		all[r] = "LV Letter ID L None"
	}
	return all
}

func TestClassesOfAllRunes(t *testing.T) {
	all := mentioned(t)
	for r := rune(0); r <= 0x110000; r++ {
		want, ok := all[r]
		if !ok {
			want = others
		}
		if got := named(r); got != want {
			t.Errorf("P3.1: %04X has the classes %s, want %s", r, got, want)
		}
	}
}

func TestClassesOfNumbersThatAreNoRunes(t *testing.T) {
	for _, r := range []rune{-1, -0xAC00, -28, math.MinInt32, 0x110000, 0x12FFFF, 0xFFFFFF, 1 << 30, math.MaxInt32, 0xD800, 0xDFFF, 0xFFFF} {
		if got := named(r); got != others {
			t.Errorf("P3.1: %X has the classes %s, want %s", r, got, others)
		}
	}
}

func TestClassesOfExamples(t *testing.T) {
	tests := []struct {
		r                              rune
		grapheme, word, line, bi, join int
	}{
		{'a', api.BreakAny, api.WordLetter, api.LineAL, api.BidiL, api.JoinNone},
		{'7', api.BreakAny, api.WordNumeric, api.LineNU, api.BidiEN, api.JoinNone},
		{0x0020, api.BreakAny, api.WordSpace, api.LineSP, api.BidiWS, api.JoinNone},
		{0x05D0, api.BreakAny, api.WordLetter, api.LineAL, api.BidiR, api.JoinNone},
		{0x0600, api.BreakPrepend, api.WordOther, api.LineAL, api.BidiAN, api.JoinNone},
		{0x0640, api.BreakAny, api.WordLetter, api.LineAL, api.BidiAL, api.JoinCausing},
		{0x200D, api.BreakZWJ, api.WordZWJ, api.LineZWJ, api.BidiBN, api.JoinCausing},
		{0xAC00, api.BreakLV, api.WordLetter, api.LineID, api.BidiL, api.JoinNone},
		{0xAC01, api.BreakLVT, api.WordLetter, api.LineID, api.BidiL, api.JoinNone},
		{0xD7A3, api.BreakLVT, api.WordLetter, api.LineID, api.BidiL, api.JoinNone},
		{0xD7A4, api.BreakAny, api.WordOther, api.LineAL, api.BidiL, api.JoinNone},
		{0x1F1E6, api.BreakRegional, api.WordRegional, api.LineRI, api.BidiL, api.JoinNone},
	}
	for _, x := range tests {
		got := [5]int{Break(x.r), Word(x.r), Line(x.r), Bidi(x.r), Joining(x.r)}
		if want := [5]int{x.grapheme, x.word, x.line, x.bi, x.join}; got != want {
			t.Errorf("P3.1: %04X has the classes %v, want %v", x.r, got, want)
		}
	}
}

// The pairs of P3.2 and P3.3: a rune and, after it, the other one.
const (
	bracketPairs = "()[]{}\u3008\u3009\u300A\u300B\u300C\u300D\u300E\u300F\u3010\u3011"
	otherPairs   = "<>\u00AB\u00BB\u2264\u2265"
)

// pairs returns the runes of a text of pairs with their partners.
func pairs(text string) (first, second map[rune]rune) {
	first, second = map[rune]rune{}, map[rune]rune{}
	runes := []rune(text)
	for i := 0; i < len(runes); i += 2 {
		first[runes[i]], second[runes[i+1]] = runes[i+1], runes[i]
	}
	return first, second
}

func TestMirror(t *testing.T) {
	first, second := pairs(bracketPairs + otherPairs)
	check := func(r rune) {
		want := r
		if other, ok := first[r]; ok {
			want = other
		} else if other, ok := second[r]; ok {
			want = other
		}
		if got := Mirror(r); got != want {
			t.Errorf("P3.2: Mirror(%04X) = %04X, want %04X", r, got, want)
		}
		if got := Mirror(Mirror(r)); got != r {
			t.Errorf("P3.4: Mirror(Mirror(%04X)) = %04X", r, got)
		}
	}
	for r := rune(-0x10000); r <= 0x110000; r++ {
		check(r)
	}
	check(math.MinInt32)
	check(math.MaxInt32)
}

func TestBracket(t *testing.T) {
	first, second := pairs(bracketPairs)
	check := func(r rune) {
		wantKind, wantOther := api.BracketNone, rune(0)
		if other, ok := first[r]; ok {
			wantKind, wantOther = api.BracketOpen, other
		} else if other, ok := second[r]; ok {
			wantKind, wantOther = api.BracketClose, other
		}
		kind, other := Bracket(r)
		if kind != wantKind || other != wantOther {
			t.Errorf("P3.3: Bracket(%04X) = %d, %04X, want %d, %04X", r, kind, other, wantKind, wantOther)
		}
		if kind != api.BracketNone && (Mirror(r) != other || Mirror(other) != r) {
			t.Errorf("P3.4: the bracket %04X is not mirrored by %04X", r, other)
		}
	}
	for r := rune(-0x10000); r <= 0x110000; r++ {
		check(r)
	}
	check(math.MinInt32)
	check(math.MaxInt32)
}
