package component

import (
	"strings"
	"testing"

	"widgetry/api"
)

func TestEffects(t *testing.T) {
	p := program(t, `(component main (a) (state b 1) (on set-b (x) (set b x)) (effect (a) (list "a" (show a))) (effect (a b) (list "ab" (show (+ a b)))) (effect () (list "once" (show a))) (view label))`)
	set := api.Action{Instance: "/", Handler: "set-b"}
	r := api.Running{}
	for i, x := range []struct {
		a, b             int
		running, emitted string
	}{
		{1, 1, `/ main(1|1|[1][1 1][])`, `("a" "1") ("ab" "2") ("once" "1")`},
		{1, 1, `/ main(1|1|[1][1 1][])`, ``},
		{2, 1, `/ main(2|1|[2][2 1][])`, `("a" "2") ("ab" "3")`},
		{2, 5, `/ main(2|5|[2][2 5][])`, `("ab" "7")`},
		{2, 5, `/ main(2|5|[2][2 5][])`, ``},
		{5, 2, `/ main(5|2|[5][5 2][])`, `("a" "5") ("ab" "7")`},
	} {
		if i > 0 {
			r, _ = mustHandle(t, p, r, set, num(x.b))
		}
		var s shown
		s, r = mustRender(t, p, r, num(x.a))
		if s.running != x.running || s.emitted != x.emitted {
			t.Errorf("P13.4: Render %d = %v, want %s, %s", i, s, x.running, x.emitted)
		}
	}
}

// TestSeen compares what an effect has seen with all kinds of values.
func TestSeen(t *testing.T) {
	p := program(t, `(component main (a b) (effect (a b) "changed") (view label))`)
	values := []api.Value{num(0), num(1), flag(0), flag(1), str(""), str("a"), seq(), seq(num(0)), seq(num(1)), seq(num(1), num(2)), seq(seq()), texts("a")}
	for i, v := range values {
		for j, w := range values {
			_, r := mustRender(t, p, api.Running{}, num(7), v)
			s, _ := mustRender(t, p, r, num(7), w)
			if want := map[bool]string{true: "", false: `"changed"`}[i == j]; s.emitted != want {
				t.Errorf("P13.4: %s has become %s: %s", showValue(v), showValue(w), s.emitted)
			}
		}
	}
	_, r := mustRender(t, p, api.Running{}, num(1), num(2))
	r.Instances[0].Seen[0][0] = api.Value{Kind: api.ValueList, L: []api.Value{}}
	if s, _ := mustRender(t, p, r, api.Value{Kind: api.ValueList}, num(2)); s.emitted != `` {
		t.Errorf("P13.4: an empty list and nil: %s", s.emitted)
	}
	// What has been seen does not depend on the arguments that r contains.
	r.Instances[0].Args[1] = num(99)
	if s, _ := mustRender(t, p, r, seq(), num(2)); s.emitted != `` {
		t.Errorf("P13.4: other former arguments: %s", s.emitted)
	}
}

// TestOrderOfEffects: the instances are examined in the order in which their expansion began.
func TestOrderOfEffects(t *testing.T) {
	p := program(t, `(component main (l) (view group (call leaf (key "z") (attr n "z")) (each x l x (call leaf (key "k") (attr n x))) (call pair (key "b") (attr n "b")) (call leaf (key "a") (attr n "a"))) (when false)) (component pair (n) (effect () (concat n "+")) (call leaf (key "y") (attr n (concat n "y"))) (call leaf (key "x") (attr n (concat n "x"))) (view label)) (component leaf (n) (effect () n) (effect (n) (concat n "2")) (view label (key n)))`)
	s, r := mustRender(t, p, api.Running{}, texts("q", "p"))
	if want := `"z" "z2" "q" "q2" "p" "p2" "b+" "by" "by2" "bx" "bx2" "a" "a2"`; s.emitted != want {
		t.Errorf("P13.4: the order of effects: %s, want %s", s.emitted, want)
	}
	// New instances emit among known ones.
	s, r = mustRender(t, p, r, texts("n", "q", "m", "p"))
	if want := `"n" "n2" "m" "m2"`; s.emitted != want {
		t.Errorf("P13.4: the order of effects: %s, want %s", s.emitted, want)
	}
	// An instance that was not part of an expansion is new.
	_, r = mustRender(t, p, r, texts("n", "p"))
	s, _ = mustRender(t, p, r, texts("p", "q", "n"))
	if want := `"q" "q2"`; s.emitted != want {
		t.Errorf("P13.6: an instance that is there again: %s, want %s", s.emitted, want)
	}
	// The root is the first one, and the instances come out in the order of their paths.
	s, _ = mustRender(t, program(t, `(component main () (effect () "main") (view group (call b) (call a))) (component a () (effect () "a")) (component b () (effect (1 "x") "b") (effect () "c"))`), api.Running{})
	if s.emitted != `"main" "b" "c" "a"` || s.running != "/ main(||[])\n/a.0 a(||[])\n/b.0 b(||[1 \"x\"][])" {
		t.Errorf("P13.4: %v", s)
	}
}

func TestErrorsOfEffects(t *testing.T) {
	for _, x := range []struct {
		text string
		want api.Errno
	}{
		{`(component main () (effect ((/ 1 0)) (not 1)) (view label))`, api.ErrRange},
		{`(component main () (effect (1 (/ 1 0) (not 1)) 1) (view label))`, api.ErrRange},
		{`(component main () (effect () (not 1)) (effect ((/ 1 0)) 1) (view label))`, api.ErrType},
		{`(component main () (effect () 1) (effect (1) (not 1)) (view label))`, api.ErrType},
		{`(component main () (effect () (not 1)) (view label (attr a (/ 1 0))))`, api.ErrRange},
		{`(component main () (effect () 1) (call other)) (component other () (effect () (not 1)) (view label))`, api.ErrType},
		{`(component main () (effect () (/ 1 0)) (call other)) (component other () (effect () (not 1)) (view label))`, api.ErrRange},
		{`(component main () (view group (call b) (call a))) (component a () (effect () (/ 1 0))) (component b () (effect () (not 1)))`, api.ErrType},
	} {
		testRefused(t, program(t, x.text), api.Running{}, x.want)
	}
	// The value of Emit is only evaluated if something is new or changed, those of Deps always are.
	p := program(t, `(component main (a b) (effect (a) (/ 1 b)) (view label))`)
	_, r := mustRender(t, p, api.Running{}, num(1), num(1))
	mustRender(t, p, r, num(1), num(0))
	testRefused(t, p, r, api.ErrRange, num(2), num(0))
	p = program(t, `(component main (a b) (effect (a (/ 1 b)) (/ 1 a)) (view label))`)
	_, r = mustRender(t, p, api.Running{}, num(1), num(1))
	testRefused(t, p, r, api.ErrRange, num(1), num(0))
}

// TestTwice renders the program that Render has returned (P13.6).
func TestTwice(t *testing.T) {
	p := program(t, `(component main (l) (state n (length l)) (on add () (set n (+ n 1))) (effect (l n) n) (view list (attr n n) (each x l x (call row (attr x x))))) (component row (x) (state y (concat x "!")) (on set-y (z) (set y z)) (effect () y) (effect (x) x) (view item (attr y y) (event press set-y)))`)
	r := api.Running{}
	for _, l := range []api.Value{texts("a", "b"), texts("b", "a", "c"), texts("c"), seq(), texts("a", "b")} {
		first, next := mustRender(t, p, r, l)
		second, again := mustRender(t, p, next, l)
		if second.view != first.view || second.running != first.running || second.emitted != "" {
			t.Errorf("P13.6: Render = %v, and then %v", first, second)
		}
		for _, i := range again.Instances[1:] {
			if i.Path != "/b/row.0" {
				continue
			}
			again, _ = mustHandle(t, p, again, api.Action{Instance: i.Path, Handler: "set-y", Args: []api.Value{str("set")}})
		}
		r, _ = mustHandle(t, p, again, api.Action{Instance: "/", Handler: "add"})
	}
	// The row b was left out, so that it has its first value again.
	s, _ := mustRender(t, p, r, texts("b"))
	if want := `list{n=7}[item#b{y="set"}<press /b/row.0:set-y>]`; s.view != want {
		t.Errorf("P13.6: Render = %s, want %s", s.view, want)
	}
	s, r = mustRender(t, p, r, texts("a"))
	if strings.Contains(s.running, "/b") {
		t.Errorf("P13.6: an instance that is not part of the expansion: %s", s.running)
	}
	s, _ = mustRender(t, p, r, texts("b"))
	if want := `list{n=7}[item#b{y="b!"}<press /b/row.0:set-y>]`; s.view != want || s.emitted != `7 "b!" "b"` {
		t.Errorf("P13.6: Render = %s, %s, want %s", s.view, s.emitted, want)
	}
}
