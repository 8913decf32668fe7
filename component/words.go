package component

import "widgetry/api"

// viewNames are the names of the kinds of views from KindGroup on.
var viewNames = [...]string{"group", "label", "button", "field", "image", "check", "link", "scroll", "heading", "list", "item", "dialog", "slider"}

// viewKind returns the kind of views with that name, or 0.
func viewKind(name string) int {
	for i, s := range viewNames {
		if s == name {
			return api.KindGroup + i
		}
	}
	return 0
}

// isKey reports whether s can be the key of a view. Other than a name, a key may begin with any of its bytes.
func isKey(s string) bool {
	if s == "" || len(s) > api.MaxName {
		return false
	}
	for i := range len(s) {
		if !isKeyByte(s[i]) {
			return false
		}
	}
	return true
}

func isKeyByte(b byte) bool {
	return 'a' <= b && b <= 'z' || 'A' <= b && b <= 'Z' || '0' <= b && b <= '9' || b == '-' || b == '_'
}
