package component

import (
	"testing"

	"widgetry/api"
)

func TestHandle(t *testing.T) {
	p := program(t, `(component main (a) (state b 1) (state c "c") (on swap () (set c (show b)) (set b (+ a (length c))) (emit b) (emit c)) (on give (x y) (set b (- x y)) (emit (list x y))) (on nothing ()) (on tell () (emit "told")) (view group (call other) (call other))) (component other () (state d 0) (on swap () (set d (+ d 1)) (emit (show d))) (view label (event press swap)))`)
	_, r := mustRender(t, p, api.Running{}, num(10))
	test := func(a api.Action, running, emitted string, args ...api.Value) {
		t.Helper()
		next, got := mustHandle(t, p, r, a, args...)
		if showRunning(next) != running || got != emitted {
			t.Errorf("P13.5: Handle(%v, %s) = %s, %s, want %s, %s", a, showValues(args), showRunning(next), got, running, emitted)
		}
		r = next
	}
	const others = "\n/other.0 other(|0|)\n/other.1 other(|0|)"
	// All expressions see the state before the event.
	test(api.Action{Instance: "/", Handler: "swap"}, `/ main(10|11 "1"|)`+others, `1 "c"`)
	test(api.Action{Instance: "/", Handler: "swap"}, `/ main(10|11 "11"|)`+others, `11 "1"`)
	test(api.Action{Instance: "/", Handler: "swap"}, `/ main(10|12 "11"|)`+others, `11 "11"`)
	// The arguments of the action come first.
	test(api.Action{Instance: "/", Handler: "give", Args: []api.Value{num(7)}}, `/ main(10|4 "11"|)`+others, `(7 3)`, num(3))
	test(api.Action{Instance: "/", Handler: "give"}, `/ main(10|-4 "11"|)`+others, `(3 7)`, num(3), num(7))
	test(api.Action{Instance: "/", Handler: "give", Args: []api.Value{num(9), num(1)}}, `/ main(10|8 "11"|)`+others, `(9 1)`)
	test(api.Action{Instance: "/", Handler: "nothing"}, `/ main(10|8 "11"|)`+others, ``)
	test(api.Action{Instance: "/", Handler: "tell"}, `/ main(10|8 "11"|)`+others, `"told"`)
	// Only the instance of the action changes. Its event does not matter.
	test(api.Action{Instance: "/other.1", Handler: "swap", Event: "none"}, "/ main(10|8 \"11\"|)\n/other.0 other(|0|)\n/other.1 other(|1|)", `"0"`)
	test(api.Action{Instance: "/other.1", Handler: "swap", Event: "9"}, "/ main(10|8 \"11\"|)\n/other.0 other(|0|)\n/other.1 other(|2|)", `"1"`)
	test(api.Action{Instance: "/other.0", Handler: "swap"}, "/ main(10|8 \"11\"|)\n/other.0 other(|1|)\n/other.1 other(|2|)", `"0"`)
}

// TestHandlersOfIterations: the actions of a view carry the arguments of its iteration.
func TestHandlersOfIterations(t *testing.T) {
	p := program(t, `(component main (l) (state chosen "") (on choose (x n) (set chosen (concat x (show n))) (emit x)) (view list (attr chosen chosen) (each x l x (view item (event press choose x)))))`)
	v, r, _, e := Render(p, api.Running{}, []api.Value{texts("a", "b")})
	if e != api.OK || len(actionsOf(v)) != 2 {
		t.Fatalf("P13.2: Render = %s, %d", showView(v), e)
	}
	for i, want := range []string{`"a"`, `"b"`} {
		next, emitted := mustHandle(t, p, r, actionsOf(v)[i], num(i))
		if emitted != want {
			t.Errorf("P13.5: Handle emits %s, want %s", emitted, want)
		}
		s, _ := mustRender(t, p, next, texts("a", "b"))
		if want := `list{chosen="` + []string{"a0", "b1"}[i] + `"}[item#a<press /:choose "a"> item#b<press /:choose "b">]`; s.view != want {
			t.Errorf("P13.5: Render = %s, want %s", s.view, want)
		}
	}
}

func TestErrorsOfHandle(t *testing.T) {
	p := program(t, `(component main (a) (state b 1) (on div (x) (set b (/ a x)) (emit (not b))) (on not-it (x) (emit (/ 1 x)) (emit (not b))) (on two (x y) (set b (not x))) (on fine (x)) (view group (call other))) (component other () (on only (x)))`)
	_, r := mustRender(t, p, api.Running{}, num(10))
	action := func(path, handler string, args ...api.Value) api.Action {
		return api.Action{Event: "press", Instance: path, Handler: handler, Args: args}
	}
	bad := api.Value{Kind: 9}
	for _, path := range []string{"", "/other", "/other.1", "/none", "main", "//", "/other.0/"} {
		testNotHandled(t, p, r, action(path, "div", bad), api.ErrMissing, bad)
	}
	for _, handler := range []string{"", "none", "only", "main", "b", "Div"} {
		testNotHandled(t, p, r, action("/", handler, bad), api.ErrMissing, bad)
	}
	testNotHandled(t, p, r, action("/other.0", "div", bad), api.ErrMissing, bad)
	testNotHandled(t, p, r, action("/", "div"), api.ErrType)
	testNotHandled(t, p, r, action("/", "div", bad), api.ErrType, bad)
	testNotHandled(t, p, r, action("/", "div", bad, bad), api.ErrType)
	testNotHandled(t, p, r, action("/", "two", bad), api.ErrType)
	testNotHandled(t, p, r, action("/", "div", bad), api.ErrKind)
	testNotHandled(t, p, r, action("/", "div"), api.ErrKind, bad)
	testNotHandled(t, p, r, action("/", "two", bad), api.ErrKind, flag(2))
	testNotHandled(t, p, r, action("/", "two", flag(2)), api.ErrRange, bad)
	testNotHandled(t, p, r, action("/", "two"), api.ErrSyntax, str("\xFF"), bad)
	testNotHandled(t, p, r, action("/", "two"), api.ErrType, num(1), num(1))
	// The Sets come before Emit, and the first error counts.
	testNotHandled(t, p, r, action("/", "div"), api.ErrRange, num(0))
	testNotHandled(t, p, r, action("/", "div"), api.ErrType, num(1))
	testNotHandled(t, p, r, action("/", "not-it"), api.ErrRange, num(0))
	testNotHandled(t, p, r, action("/", "not-it"), api.ErrType, num(1))
	mustHandle(t, p, r, action("/", "fine"), num(1))
	// Without instances there is none to react, and one that is not valid comes before that.
	testNotHandled(t, p, api.Running{}, action("/", "fine", num(1)), api.ErrMissing)
	r.Instances[1].Name = "none"
	testNotHandled(t, p, r, action("/", "fine", num(1)), api.ErrState)
	testNotHandled(t, p, r, action("none", "none"), api.ErrState)
	testNotHandled(t, program(t, `(component main () (when none))`), r, action("/", "fine", num(1)), api.ErrName)
}

// TestHandleAlone handles an event of a running program that Render has not returned.
func TestHandleAlone(t *testing.T) {
	p := program(t, `(component main () (view label)) (component other (a) (state b 1) (on go () (set b (* a b))) (effect (b) 1) (effect () 1) (view label))`)
	r := api.Running{Instances: []api.Instance{{Path: "", Name: "other", Args: []api.Value{num(2)}, Values: []api.Value{num(3)}, Seen: [][]api.Value{{str("seen")}, {}}}, {Path: "x", Name: "main"}}}
	next, _ := mustHandle(t, p, r, api.Action{Handler: "go"})
	if got := showRunning(next); got != ` other(2|6|["seen"][])`+"\nx main(||)" {
		t.Errorf("P13.5: Handle = %s", got)
	}
}
