package bidi

import "widgetry/api"

// initiates returns whether runes of the class are isolate initiators.
func initiates(class int) bool {
	return class == api.BidiLRI || class == api.BidiRLI || class == api.BidiFSI
}

// removed returns whether runes of the class only take part in the step of explicit levels.
func removed(class int) bool {
	switch class {
	case api.BidiRLE, api.BidiLRE, api.BidiRLO, api.BidiLRO, api.BidiPDF, api.BidiBN:
		return true
	}
	return false
}

func separates(class int) bool {
	return class == api.BidiS || class == api.BidiB
}

// hangs returns whether runes of the class get the level of the paragraph before a separator and at the end of a line.
func hangs(class int) bool {
	return class == api.BidiWS || class == api.BidiPDI || initiates(class) || removed(class)
}

func neutral(class int) bool {
	switch class {
	case api.BidiB, api.BidiS, api.BidiWS, api.BidiON, api.BidiPDI:
		return true
	}
	return initiates(class)
}

// direction returns the class of the direction of a level.
func direction(level int) int {
	if level%2 == 1 {
		return api.BidiR
	}
	return api.BidiL
}

// strength returns the class as which a class counts for neutral runes and brackets: numbers count as R.
// It is strong only if the class is that of a letter or a number.
func strength(class int) (counts int, strong bool) {
	switch class {
	case api.BidiL:
		return api.BidiL, true
	case api.BidiR, api.BidiEN, api.BidiAN:
		return api.BidiR, true
	}
	return 0, false
}
