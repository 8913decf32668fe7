package char

import "widgetry/api"

// classes is a row of the table: the classes of the runes first to last.
type classes struct {
	first, last                      rune
	grapheme, word, line, bidi, join uint8
}

const (
	firstSyllable = 0xAC00
	lastSyllable  = 0xD7A3
	finals        = 28 // so many syllables differ only in their final consonant; the first of them has none
)

// classesOf returns the classes of r. A rune that is not in the table has the zero row, as all its classes are 0.
func classesOf(r rune) classes {
	switch {
	case firstSyllable <= r && r <= lastSyllable:
		return syllable(r)
	case r < 0x007F:
		part := basic()
		return find(part[:], r)
	case r < 0x0590:
		part := latin()
		return find(part[:], r)
	case r < 0x0700:
		part := hebrewAndArabic()
		return find(part[:], r)
	case r < 0x2000:
		part := devanagariAndJamo()
		return find(part[:], r)
	case r < 0x3000:
		part := punctuationAndSymbols()
		return find(part[:], r)
	case r < 0x10000:
		part := ideographsAndForms()
		return find(part[:], r)
	}
	part := supplementary()
	return find(part[:], r)
}

// find returns the row of a part that contains r, or the zero row. The rows ascend.
func find(part []classes, r rune) classes {
	for _, row := range part {
		if r <= row.last {
			if r >= row.first {
				return row
			}
			break
		}
	}
	return classes{}
}

func syllable(r rune) classes {
	row := classes{firstSyllable, lastSyllable, api.BreakLVT, api.WordLetter, api.LineID, api.BidiL, api.JoinNone}
	if (r-firstSyllable)%finals == 0 {
		row.grapheme = api.BreakLV
	}
	return row
}

func basic() [39]classes {
	return [39]classes{
		{0x0000, 0x0008, api.BreakControl, api.WordOther, api.LineCM, api.BidiBN, api.JoinNone},
		{0x0009, 0x0009, api.BreakControl, api.WordOther, api.LineBA, api.BidiS, api.JoinNone},
		{0x000A, 0x000A, api.BreakLF, api.WordNewline, api.LineLF, api.BidiB, api.JoinNone},
		{0x000B, 0x000B, api.BreakControl, api.WordNewline, api.LineBK, api.BidiS, api.JoinNone},
		{0x000C, 0x000C, api.BreakControl, api.WordNewline, api.LineBK, api.BidiWS, api.JoinNone},
		{0x000D, 0x000D, api.BreakCR, api.WordNewline, api.LineCR, api.BidiB, api.JoinNone},
		{0x000E, 0x001F, api.BreakControl, api.WordOther, api.LineCM, api.BidiBN, api.JoinNone},
		{0x0020, 0x0020, api.BreakAny, api.WordSpace, api.LineSP, api.BidiWS, api.JoinNone},
		{0x0021, 0x0021, api.BreakAny, api.WordOther, api.LineEX, api.BidiON, api.JoinNone},
		{0x0022, 0x0022, api.BreakAny, api.WordOther, api.LineQU, api.BidiON, api.JoinNone},
		{0x0023, 0x0025, api.BreakAny, api.WordOther, api.LineAL, api.BidiET, api.JoinNone},
		{0x0026, 0x0026, api.BreakAny, api.WordOther, api.LineAL, api.BidiON, api.JoinNone},
		{0x0027, 0x0027, api.BreakAny, api.WordMidBoth, api.LineQU, api.BidiON, api.JoinNone},
		{0x0028, 0x0028, api.BreakAny, api.WordOther, api.LineOP, api.BidiON, api.JoinNone},
		{0x0029, 0x0029, api.BreakAny, api.WordOther, api.LineCL, api.BidiON, api.JoinNone},
		{0x002A, 0x002A, api.BreakAny, api.WordOther, api.LineAL, api.BidiON, api.JoinNone},
		{0x002B, 0x002B, api.BreakAny, api.WordOther, api.LineAL, api.BidiES, api.JoinNone},
		{0x002C, 0x002C, api.BreakAny, api.WordMidNum, api.LineIS, api.BidiCS, api.JoinNone},
		{0x002D, 0x002D, api.BreakAny, api.WordOther, api.LineHY, api.BidiES, api.JoinNone},
		{0x002E, 0x002E, api.BreakAny, api.WordMidBoth, api.LineIS, api.BidiCS, api.JoinNone},
		{0x002F, 0x002F, api.BreakAny, api.WordOther, api.LineBA, api.BidiCS, api.JoinNone},
		{0x0030, 0x0039, api.BreakAny, api.WordNumeric, api.LineNU, api.BidiEN, api.JoinNone},
		{0x003A, 0x003A, api.BreakAny, api.WordMid, api.LineIS, api.BidiCS, api.JoinNone},
		{0x003B, 0x003B, api.BreakAny, api.WordMidNum, api.LineIS, api.BidiON, api.JoinNone},
		{0x003C, 0x003E, api.BreakAny, api.WordOther, api.LineAL, api.BidiON, api.JoinNone},
		{0x003F, 0x003F, api.BreakAny, api.WordOther, api.LineEX, api.BidiON, api.JoinNone},
		{0x0040, 0x0040, api.BreakAny, api.WordOther, api.LineAL, api.BidiON, api.JoinNone},
		{0x0041, 0x005A, api.BreakAny, api.WordLetter, api.LineAL, api.BidiL, api.JoinNone},
		{0x005B, 0x005B, api.BreakAny, api.WordOther, api.LineOP, api.BidiON, api.JoinNone},
		{0x005C, 0x005C, api.BreakAny, api.WordOther, api.LineAL, api.BidiON, api.JoinNone},
		{0x005D, 0x005D, api.BreakAny, api.WordOther, api.LineCL, api.BidiON, api.JoinNone},
		{0x005E, 0x005E, api.BreakAny, api.WordOther, api.LineAL, api.BidiON, api.JoinNone},
		{0x005F, 0x005F, api.BreakAny, api.WordConnect, api.LineAL, api.BidiON, api.JoinNone},
		{0x0060, 0x0060, api.BreakAny, api.WordOther, api.LineAL, api.BidiON, api.JoinNone},
		{0x0061, 0x007A, api.BreakAny, api.WordLetter, api.LineAL, api.BidiL, api.JoinNone},
		{0x007B, 0x007B, api.BreakAny, api.WordOther, api.LineOP, api.BidiON, api.JoinNone},
		{0x007C, 0x007C, api.BreakAny, api.WordOther, api.LineBA, api.BidiON, api.JoinNone},
		{0x007D, 0x007D, api.BreakAny, api.WordOther, api.LineCL, api.BidiON, api.JoinNone},
		{0x007E, 0x007E, api.BreakAny, api.WordOther, api.LineAL, api.BidiON, api.JoinNone},
	}
}

func latin() [22]classes {
	return [22]classes{
		{0x007F, 0x0084, api.BreakControl, api.WordOther, api.LineCM, api.BidiBN, api.JoinNone},
		{0x0085, 0x0085, api.BreakControl, api.WordNewline, api.LineBK, api.BidiB, api.JoinNone},
		{0x0086, 0x009F, api.BreakControl, api.WordOther, api.LineCM, api.BidiBN, api.JoinNone},
		{0x00A0, 0x00A0, api.BreakAny, api.WordOther, api.LineGL, api.BidiCS, api.JoinNone},
		{0x00A1, 0x00A1, api.BreakAny, api.WordOther, api.LineOP, api.BidiON, api.JoinNone},
		{0x00A2, 0x00A5, api.BreakAny, api.WordOther, api.LineAL, api.BidiET, api.JoinNone},
		{0x00A6, 0x00A9, api.BreakAny, api.WordOther, api.LineAL, api.BidiON, api.JoinNone},
		{0x00AA, 0x00AA, api.BreakAny, api.WordLetter, api.LineAL, api.BidiL, api.JoinNone},
		{0x00AB, 0x00AB, api.BreakAny, api.WordOther, api.LineQU, api.BidiON, api.JoinNone},
		{0x00AC, 0x00AC, api.BreakAny, api.WordOther, api.LineAL, api.BidiON, api.JoinNone},
		{0x00AD, 0x00AD, api.BreakControl, api.WordExtend, api.LineBA, api.BidiBN, api.JoinTransparent},
		{0x00AE, 0x00B4, api.BreakAny, api.WordOther, api.LineAL, api.BidiON, api.JoinNone},
		{0x00B5, 0x00B5, api.BreakAny, api.WordLetter, api.LineAL, api.BidiL, api.JoinNone},
		{0x00B6, 0x00B6, api.BreakAny, api.WordOther, api.LineAL, api.BidiON, api.JoinNone},
		{0x00B7, 0x00B7, api.BreakAny, api.WordMid, api.LineAL, api.BidiON, api.JoinNone},
		{0x00B8, 0x00B9, api.BreakAny, api.WordOther, api.LineAL, api.BidiON, api.JoinNone},
		{0x00BA, 0x00BA, api.BreakAny, api.WordLetter, api.LineAL, api.BidiL, api.JoinNone},
		{0x00BB, 0x00BB, api.BreakAny, api.WordOther, api.LineQU, api.BidiON, api.JoinNone},
		{0x00BC, 0x00BF, api.BreakAny, api.WordOther, api.LineAL, api.BidiON, api.JoinNone},
		{0x00C0, 0x02FF, api.BreakAny, api.WordLetter, api.LineAL, api.BidiL, api.JoinNone},
		{0x0300, 0x036F, api.BreakExtend, api.WordExtend, api.LineCM, api.BidiNSM, api.JoinTransparent},
		{0x0370, 0x058F, api.BreakAny, api.WordLetter, api.LineAL, api.BidiL, api.JoinNone},
	}
}

func hebrewAndArabic() [37]classes {
	return [37]classes{
		{0x0590, 0x05BD, api.BreakExtend, api.WordExtend, api.LineCM, api.BidiNSM, api.JoinTransparent},
		{0x05BE, 0x05BE, api.BreakAny, api.WordOther, api.LineBA, api.BidiR, api.JoinNone},
		{0x05BF, 0x05C7, api.BreakExtend, api.WordExtend, api.LineCM, api.BidiNSM, api.JoinTransparent},
		{0x05D0, 0x05EA, api.BreakAny, api.WordLetter, api.LineAL, api.BidiR, api.JoinNone},
		{0x0600, 0x0605, api.BreakPrepend, api.WordOther, api.LineAL, api.BidiAN, api.JoinNone},
		{0x060C, 0x060C, api.BreakAny, api.WordMidNum, api.LineIS, api.BidiCS, api.JoinNone},
		{0x0610, 0x061A, api.BreakExtend, api.WordExtend, api.LineCM, api.BidiNSM, api.JoinTransparent},
		{0x061B, 0x061B, api.BreakAny, api.WordOther, api.LineEX, api.BidiAL, api.JoinNone},
		{0x061C, 0x061C, api.BreakControl, api.WordExtend, api.LineCM, api.BidiAL, api.JoinTransparent},
		{0x061F, 0x061F, api.BreakAny, api.WordOther, api.LineEX, api.BidiAL, api.JoinNone},
		{0x0620, 0x0620, api.BreakAny, api.WordLetter, api.LineAL, api.BidiAL, api.JoinDual},
		{0x0621, 0x0621, api.BreakAny, api.WordLetter, api.LineAL, api.BidiAL, api.JoinNone},
		{0x0622, 0x0625, api.BreakAny, api.WordLetter, api.LineAL, api.BidiAL, api.JoinRight},
		{0x0626, 0x0626, api.BreakAny, api.WordLetter, api.LineAL, api.BidiAL, api.JoinDual},
		{0x0627, 0x0627, api.BreakAny, api.WordLetter, api.LineAL, api.BidiAL, api.JoinRight},
		{0x0628, 0x0628, api.BreakAny, api.WordLetter, api.LineAL, api.BidiAL, api.JoinDual},
		{0x0629, 0x0629, api.BreakAny, api.WordLetter, api.LineAL, api.BidiAL, api.JoinRight},
		{0x062A, 0x062E, api.BreakAny, api.WordLetter, api.LineAL, api.BidiAL, api.JoinDual},
		{0x062F, 0x0632, api.BreakAny, api.WordLetter, api.LineAL, api.BidiAL, api.JoinRight},
		{0x0633, 0x063F, api.BreakAny, api.WordLetter, api.LineAL, api.BidiAL, api.JoinDual},
		{0x0640, 0x0640, api.BreakAny, api.WordLetter, api.LineAL, api.BidiAL, api.JoinCausing},
		{0x0641, 0x0647, api.BreakAny, api.WordLetter, api.LineAL, api.BidiAL, api.JoinDual},
		{0x0648, 0x0648, api.BreakAny, api.WordLetter, api.LineAL, api.BidiAL, api.JoinRight},
		{0x0649, 0x064A, api.BreakAny, api.WordLetter, api.LineAL, api.BidiAL, api.JoinDual},
		{0x064B, 0x065F, api.BreakExtend, api.WordExtend, api.LineCM, api.BidiNSM, api.JoinTransparent},
		{0x0660, 0x0669, api.BreakAny, api.WordNumeric, api.LineNU, api.BidiAN, api.JoinNone},
		{0x066A, 0x066A, api.BreakAny, api.WordOther, api.LineAL, api.BidiET, api.JoinNone},
		{0x066B, 0x066C, api.BreakAny, api.WordMidNum, api.LineIS, api.BidiAN, api.JoinNone},
		{0x0670, 0x0670, api.BreakExtend, api.WordExtend, api.LineCM, api.BidiNSM, api.JoinTransparent},
		{0x0671, 0x0677, api.BreakAny, api.WordLetter, api.LineAL, api.BidiAL, api.JoinRight},
		{0x0678, 0x0687, api.BreakAny, api.WordLetter, api.LineAL, api.BidiAL, api.JoinDual},
		{0x0688, 0x0699, api.BreakAny, api.WordLetter, api.LineAL, api.BidiAL, api.JoinRight},
		{0x069A, 0x06BF, api.BreakAny, api.WordLetter, api.LineAL, api.BidiAL, api.JoinDual},
		{0x06C0, 0x06CB, api.BreakAny, api.WordLetter, api.LineAL, api.BidiAL, api.JoinRight},
		{0x06CC, 0x06D3, api.BreakAny, api.WordLetter, api.LineAL, api.BidiAL, api.JoinDual},
		{0x06D6, 0x06DC, api.BreakExtend, api.WordExtend, api.LineCM, api.BidiNSM, api.JoinTransparent},
		{0x06F0, 0x06F9, api.BreakAny, api.WordNumeric, api.LineNU, api.BidiEN, api.JoinNone},
	}
}

func devanagariAndJamo() [12]classes {
	return [12]classes{
		{0x0900, 0x0902, api.BreakExtend, api.WordExtend, api.LineCM, api.BidiNSM, api.JoinNone},
		{0x0903, 0x0903, api.BreakSpacing, api.WordExtend, api.LineCM, api.BidiL, api.JoinNone},
		{0x0904, 0x0939, api.BreakAny, api.WordLetter, api.LineAL, api.BidiL, api.JoinNone},
		{0x093C, 0x093C, api.BreakExtend, api.WordExtend, api.LineCM, api.BidiNSM, api.JoinNone},
		{0x093E, 0x0940, api.BreakSpacing, api.WordExtend, api.LineCM, api.BidiL, api.JoinNone},
		{0x0941, 0x0948, api.BreakExtend, api.WordExtend, api.LineCM, api.BidiNSM, api.JoinNone},
		{0x0949, 0x094C, api.BreakSpacing, api.WordExtend, api.LineCM, api.BidiL, api.JoinNone},
		{0x094D, 0x094D, api.BreakExtend, api.WordExtend, api.LineCM, api.BidiNSM, api.JoinNone},
		{0x0966, 0x096F, api.BreakAny, api.WordNumeric, api.LineNU, api.BidiL, api.JoinNone},
		{0x1100, 0x115F, api.BreakL, api.WordLetter, api.LineID, api.BidiL, api.JoinNone},
		{0x1160, 0x11A7, api.BreakV, api.WordLetter, api.LineID, api.BidiL, api.JoinNone},
		{0x11A8, 0x11FF, api.BreakT, api.WordLetter, api.LineID, api.BidiL, api.JoinNone},
	}
}

func punctuationAndSymbols() [34]classes {
	return [34]classes{
		{0x2000, 0x2006, api.BreakAny, api.WordSpace, api.LineBA, api.BidiWS, api.JoinNone},
		{0x2007, 0x2007, api.BreakAny, api.WordOther, api.LineGL, api.BidiWS, api.JoinNone},
		{0x2008, 0x200A, api.BreakAny, api.WordSpace, api.LineBA, api.BidiWS, api.JoinNone},
		{0x200B, 0x200B, api.BreakControl, api.WordOther, api.LineZW, api.BidiBN, api.JoinNone},
		{0x200C, 0x200C, api.BreakExtend, api.WordExtend, api.LineCM, api.BidiBN, api.JoinNone},
		{0x200D, 0x200D, api.BreakZWJ, api.WordZWJ, api.LineZWJ, api.BidiBN, api.JoinCausing},
		{0x200E, 0x200E, api.BreakControl, api.WordExtend, api.LineCM, api.BidiL, api.JoinTransparent},
		{0x200F, 0x200F, api.BreakControl, api.WordExtend, api.LineCM, api.BidiR, api.JoinTransparent},
		{0x2010, 0x2010, api.BreakAny, api.WordOther, api.LineBA, api.BidiON, api.JoinNone},
		{0x2011, 0x2011, api.BreakAny, api.WordOther, api.LineGL, api.BidiON, api.JoinNone},
		{0x2012, 0x2014, api.BreakAny, api.WordOther, api.LineBA, api.BidiON, api.JoinNone},
		{0x2015, 0x2017, api.BreakAny, api.WordOther, api.LineAL, api.BidiON, api.JoinNone},
		{0x2018, 0x2018, api.BreakAny, api.WordOther, api.LineQU, api.BidiON, api.JoinNone},
		{0x2019, 0x2019, api.BreakAny, api.WordMidBoth, api.LineQU, api.BidiON, api.JoinNone},
		{0x201A, 0x201A, api.BreakAny, api.WordOther, api.LineOP, api.BidiON, api.JoinNone},
		{0x201C, 0x201D, api.BreakAny, api.WordOther, api.LineQU, api.BidiON, api.JoinNone},
		{0x2028, 0x2028, api.BreakControl, api.WordNewline, api.LineBK, api.BidiWS, api.JoinNone},
		{0x2029, 0x2029, api.BreakControl, api.WordNewline, api.LineBK, api.BidiB, api.JoinNone},
		{0x202A, 0x202A, api.BreakControl, api.WordExtend, api.LineCM, api.BidiLRE, api.JoinTransparent},
		{0x202B, 0x202B, api.BreakControl, api.WordExtend, api.LineCM, api.BidiRLE, api.JoinTransparent},
		{0x202C, 0x202C, api.BreakControl, api.WordExtend, api.LineCM, api.BidiPDF, api.JoinTransparent},
		{0x202D, 0x202D, api.BreakControl, api.WordExtend, api.LineCM, api.BidiLRO, api.JoinTransparent},
		{0x202E, 0x202E, api.BreakControl, api.WordExtend, api.LineCM, api.BidiRLO, api.JoinTransparent},
		{0x2030, 0x2034, api.BreakAny, api.WordOther, api.LineAL, api.BidiET, api.JoinNone},
		{0x203F, 0x2040, api.BreakAny, api.WordConnect, api.LineAL, api.BidiON, api.JoinNone},
		{0x2060, 0x2060, api.BreakControl, api.WordExtend, api.LineWJ, api.BidiBN, api.JoinTransparent},
		{0x2066, 0x2066, api.BreakControl, api.WordExtend, api.LineCM, api.BidiLRI, api.JoinNone},
		{0x2067, 0x2067, api.BreakControl, api.WordExtend, api.LineCM, api.BidiRLI, api.JoinNone},
		{0x2068, 0x2068, api.BreakControl, api.WordExtend, api.LineCM, api.BidiFSI, api.JoinNone},
		{0x2069, 0x2069, api.BreakControl, api.WordExtend, api.LineCM, api.BidiPDI, api.JoinNone},
		{0x20A0, 0x20CF, api.BreakAny, api.WordOther, api.LineAL, api.BidiET, api.JoinNone},
		{0x20D0, 0x20F0, api.BreakExtend, api.WordExtend, api.LineCM, api.BidiNSM, api.JoinTransparent},
		{0x2190, 0x22FF, api.BreakAny, api.WordOther, api.LineAL, api.BidiON, api.JoinNone},
		{0x2600, 0x27BF, api.BreakPicture, api.WordOther, api.LineID, api.BidiON, api.JoinNone},
	}
}

func ideographsAndForms() [23]classes {
	return [23]classes{
		{0x3000, 0x3000, api.BreakAny, api.WordSpace, api.LineBA, api.BidiWS, api.JoinNone},
		{0x3001, 0x3002, api.BreakAny, api.WordOther, api.LineCL, api.BidiON, api.JoinNone},
		{0x3005, 0x3007, api.BreakAny, api.WordOther, api.LineID, api.BidiL, api.JoinNone},
		{0x3008, 0x3008, api.BreakAny, api.WordOther, api.LineOP, api.BidiON, api.JoinNone},
		{0x3009, 0x3009, api.BreakAny, api.WordOther, api.LineCL, api.BidiON, api.JoinNone},
		{0x300A, 0x300A, api.BreakAny, api.WordOther, api.LineOP, api.BidiON, api.JoinNone},
		{0x300B, 0x300B, api.BreakAny, api.WordOther, api.LineCL, api.BidiON, api.JoinNone},
		{0x300C, 0x300C, api.BreakAny, api.WordOther, api.LineOP, api.BidiON, api.JoinNone},
		{0x300D, 0x300D, api.BreakAny, api.WordOther, api.LineCL, api.BidiON, api.JoinNone},
		{0x300E, 0x300E, api.BreakAny, api.WordOther, api.LineOP, api.BidiON, api.JoinNone},
		{0x300F, 0x300F, api.BreakAny, api.WordOther, api.LineCL, api.BidiON, api.JoinNone},
		{0x3010, 0x3010, api.BreakAny, api.WordOther, api.LineOP, api.BidiON, api.JoinNone},
		{0x3011, 0x3011, api.BreakAny, api.WordOther, api.LineCL, api.BidiON, api.JoinNone},
		{0x3041, 0x3096, api.BreakAny, api.WordOther, api.LineID, api.BidiL, api.JoinNone},
		{0x3099, 0x309A, api.BreakExtend, api.WordExtend, api.LineCM, api.BidiNSM, api.JoinTransparent},
		{0x30A1, 0x30FA, api.BreakAny, api.WordKatakana, api.LineID, api.BidiL, api.JoinNone},
		{0x30FC, 0x30FC, api.BreakAny, api.WordKatakana, api.LineID, api.BidiL, api.JoinNone},
		{0x3400, 0x9FFF, api.BreakAny, api.WordOther, api.LineID, api.BidiL, api.JoinNone},
		{0xFB1D, 0xFB4F, api.BreakAny, api.WordLetter, api.LineAL, api.BidiR, api.JoinNone},
		{0xFB50, 0xFDFF, api.BreakAny, api.WordLetter, api.LineAL, api.BidiAL, api.JoinNone},
		{0xFE00, 0xFE0F, api.BreakExtend, api.WordExtend, api.LineCM, api.BidiNSM, api.JoinTransparent},
		{0xFE70, 0xFEFC, api.BreakAny, api.WordLetter, api.LineAL, api.BidiAL, api.JoinNone},
		{0xFEFF, 0xFEFF, api.BreakControl, api.WordExtend, api.LineWJ, api.BidiBN, api.JoinTransparent},
	}
}

func supplementary() [6]classes {
	return [6]classes{
		{0x1F1E6, 0x1F1FF, api.BreakRegional, api.WordRegional, api.LineRI, api.BidiL, api.JoinNone},
		{0x1F300, 0x1F3FA, api.BreakPicture, api.WordOther, api.LineID, api.BidiON, api.JoinNone},
		{0x1F3FB, 0x1F3FF, api.BreakExtend, api.WordExtend, api.LineCM, api.BidiON, api.JoinTransparent},
		{0x1F400, 0x1FAFF, api.BreakPicture, api.WordOther, api.LineID, api.BidiON, api.JoinNone},
		{0x20000, 0x3FFFD, api.BreakAny, api.WordOther, api.LineID, api.BidiL, api.JoinNone},
		{0xE0100, 0xE01EF, api.BreakExtend, api.WordExtend, api.LineCM, api.BidiNSM, api.JoinTransparent},
	}
}
