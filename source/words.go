package source

import "widgetry/api"

// operatorWords are the words of the operators from OpAdd on.
var operatorWords = [...]string{"+", "-", "*", "/", "mod", "<", "=", "not", "and", "or", "if", "concat", "length", "show", "list", "item", "drop"}

// templateWords are the words of the kinds of templates from TemplateElement on.
var templateWords = [...]string{"view", "when", "each", "call"}

// viewWords are the words of the kinds of views.
var viewWords = [...]string{"group", "label", "button", "field", "image", "check", "link", "scroll", "heading", "list", "item", "dialog", "slider"}

// operator returns the operator with that word, and whether there is one.
func operator(word string) (int, bool) {
	for i, w := range operatorWords {
		if w == word {
			return api.OpAdd + i, true
		}
	}
	return 0, false
}

// operatorWord returns the word of an operator, and whether it has one.
func operatorWord(op int) (string, bool) {
	if op < api.OpAdd || op-api.OpAdd >= len(operatorWords) {
		return "", false
	}
	return operatorWords[op-api.OpAdd], true
}

// operands returns the least and the greatest number of operands of an operator that has a word.
func operands(op int) (least, most int) {
	switch op {
	case api.OpNot, api.OpLength, api.OpShow:
		return 1, 1
	case api.OpIf:
		return 3, 3
	case api.OpList:
		return 0, api.MaxKids
	}
	return 2, 2
}

// templateKind returns the kind of the templates with that word, and whether there is one.
func templateKind(word string) (int, bool) {
	for i, w := range templateWords {
		if w == word {
			return api.TemplateElement + i, true
		}
	}
	return 0, false
}

// isViewWord reports whether word is the one of a kind of views.
func isViewWord(word string) bool {
	for _, w := range viewWords {
		if w == word {
			return true
		}
	}
	return false
}
