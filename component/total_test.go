package component

import (
	"fmt"
	"reflect"
	"slices"
	"testing"

	"widgetry/api"
)

// TestEndlessTemplates examines templates that contain themselves (R1).
func TestEndlessTemplates(t *testing.T) {
	for kind := range 6 {
		for _, n := range []int{1, 2, api.MaxKids, 500} {
			kids := make([]api.Template, n)
			for i := range kids {
				kids[i] = api.Template{Kind: kind, Name: "group", Hooks: make([]api.Hook, 3), Kids: kids}
			}
			testValidate(t, "endless templates", body(kids...), api.ErrTooLong)
			testValidate(t, "an endless template", body(view("group", kids...)), api.ErrTooLong)
		}
	}
	wide := view("group")
	for range api.MaxDepth {
		wide = view("group", slices.Repeat([]api.Template{wide}, api.MaxKids)...)
	}
	testValidate(t, "very many templates", body(wide), api.ErrTooLong)
	hooks := make([]api.Hook, 1<<20)
	wide = view("group", slices.Repeat([]api.Template{{Hooks: hooks}}, api.MaxKids)...)
	testValidate(t, "very many hooks", body(slices.Repeat([]api.Template{wide}, api.MaxKids)...), api.ErrTooLong)
}

// TestEndlessExpressions examines expressions that contain themselves (R1).
func TestEndlessExpressions(t *testing.T) {
	args := make([]api.Expr, 2)
	for i := range args {
		args[i] = op(api.OpList, args...)
	}
	const text = `(component main () (state b 1) (on c () (set b 1) (emit 1)) (effect (1) 1) (view group (key 1) (attr e 1) (event f c 1)) (when 1) (each g 1 1) (call main (key 1)))`
	for i := range expressionsOf(program(t, text)) {
		p := program(t, text)
		*expressionsOf(p)[i] = args[0]
		testValidate(t, "an endless expression", p, api.ErrDepth)
	}
}

// TestEndlessValues passes values that contain themselves (R1).
func TestEndlessValues(t *testing.T) {
	l := make([]api.Value, 2)
	for i := range l {
		l[i] = seq(l...)
	}
	endless := l[0]
	p := program(t, `(component main (a) (state b 1) (on go (c) (set b c)) (effect (a) b) (view label))`)
	testRefused(t, p, api.Running{}, api.ErrDepth, endless)
	_, r := mustRender(t, p, api.Running{}, num(1))
	a := api.Action{Instance: "/", Handler: "go"}
	testNotHandled(t, p, r, a, api.ErrDepth, endless)
	a.Args = []api.Value{endless}
	testNotHandled(t, p, r, a, api.ErrDepth)
	for i := range 3 {
		_, r = mustRender(t, p, api.Running{}, num(1))
		*[]*api.Value{&r.Instances[0].Args[0], &r.Instances[0].Values[0], &r.Instances[0].Seen[0][0]}[i] = endless
		testRefused(t, p, r, api.ErrState, num(1))
		testNotHandled(t, p, r, a, api.ErrState)
	}
}

// area is the memory of a slice.
type area struct{ from, to uintptr }

// areasOf returns the memory of all slices that can be reached from a value.
func areasOf(v reflect.Value) []area {
	var l []area
	switch v.Kind() {
	case reflect.Struct:
		for i := range v.NumField() {
			l = append(l, areasOf(v.Field(i))...)
		}
	case reflect.Slice:
		if v.Cap() > 0 {
			l = append(l, area{v.Pointer(), v.Pointer() + uintptr(v.Cap())*v.Type().Elem().Size()})
		}
		for i := range v.Len() {
			l = append(l, areasOf(v.Index(i))...)
		}
	}
	return l
}

// testMemory checks that no two slices of results share memory, and none shares memory with an argument (R2).
func testMemory(t *testing.T, results, arguments []any) {
	t.Helper()
	var own, other []area
	for _, x := range results {
		own = append(own, areasOf(reflect.ValueOf(x))...)
	}
	for _, x := range arguments {
		other = append(other, areasOf(reflect.ValueOf(x))...)
	}
	for i, a := range own {
		for _, b := range append(own[:i:i], other...) {
			if a.from < b.to && b.from < a.to {
				t.Fatalf("R2: memory is shared: %v, %v", results, arguments)
			}
		}
	}
}

func TestMemory(t *testing.T) {
	p := program(t, `(component main (l) (state s l) (state e (list)) (on set-s (x y) (set s x) (emit x) (emit s) (emit l) (emit y)) (effect (l s) l) (effect (l) s) (view list (attr a l) (attr b l) (attr c s) (event press set-s l s) (event long set-s l l) (each x l (item x 0) (view item (attr x x) (attr y x) (event press set-s x)) (call row (attr x x) (attr l l))))) (component row (x l) (state y x) (on go (z) (set y z)) (effect (x y l) x) (view item (key (concat "r" (item x 0))) (attr x x) (event press go x)))`)
	args := []api.Value{seq(texts("a", "b"), texts("c"), texts("d", "e", "f"))}
	v, r, emitted, e := Render(p, api.Running{}, args)
	if e != api.OK || len(actionsOf(v)) != 8 || len(emitted) != 5 {
		t.Fatalf("Render = %s, %d values, %d", showView(v), len(emitted), e)
	}
	testMemory(t, []any{v, r, emitted}, []any{p, args})
	again, next, emitted, e := Render(p, r, args)
	if e != api.OK || showView(again) != showView(v) || showRunning(next) != showRunning(r) {
		t.Fatalf("P13.6: Render = %s, %s, %d", showView(again), showRunning(next), e)
	}
	testMemory(t, []any{again, next, emitted}, []any{p, args, r, v})
	for _, a := range actionsOf(v) {
		var given []api.Value
		if a.Handler == "set-s" && len(a.Args) == 1 {
			given = []api.Value{seq(texts("z"))}
		}
		before, handled := showRunning(r), fmt.Sprint(a, given)
		next, emitted, e := Handle(p, r, a, given)
		if e != api.OK || showRunning(r) != before || fmt.Sprint(a, given) != handled {
			t.Fatalf("R2: Handle has changed its arguments: %s, %d", showRunning(r), e)
		}
		testMemory(t, []any{next, emitted}, []any{p, r, a, given, v})
	}
}

// TestUnchanged checks that no argument changes (R2), and that equal arguments give equal results.
func TestUnchanged(t *testing.T) {
	m := newMaker(3)
	for range 300 {
		p := m.make()
		r := api.Running{}
		for range 4 {
			args := m.valuesFor(p.Components[0].Params)
			before := fmt.Sprint(p, r, args)
			v, next, emitted, e := Render(p, r, args)
			v2, next2, emitted2, e2 := Render(p, r, args)
			if fmt.Sprint(p, r, args) != before {
				t.Fatalf("R2: Render has changed its arguments: %s", before)
			}
			if fmt.Sprint(v, next, emitted, e) != fmt.Sprint(v2, next2, emitted2, e2) {
				t.Fatalf("R2: Render has different results: %s", before)
			}
			testMemory(t, []any{v, next, emitted}, []any{p, r, args})
			a, args := m.action(p, v, next)
			before = fmt.Sprint(p, next, a, args)
			handled, emitted, e := Handle(p, next, a, args)
			if fmt.Sprint(p, next, a, args) != before {
				t.Fatalf("R2: Handle has changed its arguments: %s", before)
			}
			testMemory(t, []any{handled, emitted}, []any{p, next, a, args})
			if e == api.OK {
				r = handled
			}
		}
	}
}
