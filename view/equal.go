package view

import (
	"slices"

	"widgetry/api"
	"widgetry/expr"
)

// equal compares valid views.
func equal(a, b api.View) bool {
	return a.Kind == b.Kind && a.Key == b.Key &&
		slices.EqualFunc(a.Attrs, b.Attrs, equalAttrs) &&
		slices.EqualFunc(a.Actions, b.Actions, equalActions) &&
		slices.EqualFunc(a.Kids, b.Kids, equal)
}

func equalAttrs(a, b api.Attr) bool {
	return a.Name == b.Name && expr.Equal(a.Value, b.Value)
}

func equalActions(a, b api.Action) bool {
	return a.Event == b.Event && a.Instance == b.Instance && a.Handler == b.Handler && slices.EqualFunc(a.Args, b.Args, expr.Equal)
}
