package component

import (
	"fmt"
	"math/rand/v2"
	"slices"
	"strings"
	"testing"

	"widgetry/api"
)

// maker makes programs by chance, the same in each run. The first letter of the name of a variable is its type: a number, a bool, a text, or a list of texts.
type maker struct {
	*rand.Rand
	program api.Program
	keys    int
}

func newMaker(seed uint64) *maker { return &maker{Rand: rand.New(rand.NewPCG(13, seed))} }

func pick[T any](m *maker, l ...T) T { return l[m.IntN(len(l))] }

// some returns some of the elements of l, in another order.
func some[T any](m *maker, most int, l ...T) []T {
	m.Shuffle(len(l), func(i, j int) { l[i], l[j] = l[j], l[i] })
	return l[:m.IntN(min(most, len(l))+1)]
}

func oneIn(m *maker, n int) bool { return m.IntN(n) == 0 }

// variable returns a variable of that type, or nothing.
func (m *maker) variable(typ byte, scope []string) []api.Expr {
	var l []api.Expr
	for _, s := range scope {
		if s[0] == typ {
			l = append(l, name(s))
		}
	}
	if len(l) == 0 {
		return nil
	}
	return one(pick(m, l...))
}

// expression returns an expression of a type, seldom of another one.
func (m *maker) expression(typ byte, scope []string, depth int) api.Expr {
	if oneIn(m, 800) {
		typ = pick[byte](m, 'n', 'b', 's', 'l')
	}
	if v := m.variable(typ, scope); len(v) > 0 && !oneIn(m, 3) {
		return v[0]
	}
	sub := func(typ byte) api.Expr { return m.expression(typ, scope, depth-1) }
	simple := depth == 0 || oneIn(m, 2)
	if !simple && oneIn(m, 5) {
		return op(api.OpIf, sub('b'), sub(typ), sub(typ))
	}
	switch {
	case typ == 'n' && simple:
		return lit(m.IntN(4))
	case typ == 'n':
		return pick(m, op(pick(m, api.OpAdd, api.OpSub, api.OpMul), sub('n'), sub('n')), op(api.OpLength, sub(pick[byte](m, 's', 'l'))), op(api.OpDiv, sub('n'), lit(m.IntN(20))))
	case typ == 'b' && simple:
		return api.Expr{Op: api.OpBool, N: min(1, m.IntN(4))}
	case typ == 'b':
		kind := pick[byte](m, 'n', 'b', 's', 'l')
		return pick(m, op(api.OpLess, sub('n'), sub('n')), op(api.OpEqual, sub(kind), sub(kind)), op(api.OpNot, sub('b')), op(api.OpOr, sub('b'), sub('b')))
	case typ == 's' && simple:
		return quoted(pick(m, "a", "b", "c", "D-1", "_2"))
	case typ == 's':
		return pick(m, op(api.OpConcat, sub('s'), sub('s')), op(api.OpShow, sub('n')), op(api.OpItem, op(api.OpConcat, sub('l'), op(api.OpList, sub('s'))), lit(0)))
	case simple:
		l := op(api.OpList)
		for _, s := range some(m, 3, "a", "b", "c", "d", "e") {
			l.Args = append(l.Args, quoted(s))
		}
		return l
	}
	return pick(m, op(api.OpConcat, sub('l'), op(api.OpList)), op(api.OpDrop, op(api.OpList, sub('s'), sub('s'), sub('s')), lit(m.IntN(3))), op(api.OpList, sub('s')))
}

func (m *maker) expressionFor(name string, scope []string) api.Expr {
	return m.expression(name[0], scope, m.IntN(3))
}

// any returns an expression of any type.
func (m *maker) any(scope []string) api.Expr {
	return m.expression(pick[byte](m, 'n', 'b', 's', 'l'), scope, m.IntN(3))
}

// someKey returns no key, one that stands nowhere else, or any one.
func (m *maker) someKey(scope []string) []api.Expr {
	m.keys++
	switch {
	case oneIn(m, 2):
		return nil
	case oneIn(m, 20):
		return one(m.expressionFor("s", scope))
	case oneIn(m, 100):
		return one(quoted(pick(m, "", "a b", "\u00E9", strings.Repeat("k", 25))))
	}
	return one(quoted(fmt.Sprint("k", m.keys)))
}

// templates returns templates for the component with the index at.
func (m *maker) templates(at int, scope []string, depth int) []api.Template {
	var l []api.Template
	for range m.IntN(4) {
		l = append(l, m.template(at, scope, depth))
	}
	return l
}

func (m *maker) template(at int, scope []string, depth int) api.Template {
	if depth == 0 {
		return api.Template{Kind: api.TemplateElement, Name: "slider", Key: m.someKey(scope)}
	}
	c := m.program.Components[at]
	switch k := m.IntN(7); {
	case k < 3:
		t := api.Template{Kind: api.TemplateElement, Name: pick(m, "group", "label", "list", "dialog"), Key: m.someKey(scope)}
		for _, s := range some(m, 3, "n", "b", "s", "l", "C") {
			t.Settings = append(t.Settings, api.Setting{Name: s, E: m.any(scope)})
		}
		for _, s := range some(m, len(c.Handlers), "press", "change", "Long") {
			h := pick(m, c.Handlers...)
			x := api.Hook{Event: s, Handler: h.Name}
			for _, s := range h.Params[:m.IntN(len(h.Params)+1)] {
				x.Args = append(x.Args, m.expressionFor(s, scope))
			}
			t.Hooks = append(t.Hooks, x)
		}
		t.Kids = m.templates(at, scope, depth-1)
		return t
	case k == 3:
		return api.Template{Kind: api.TemplateIf, E: one(m.expressionFor("b", scope)), Kids: m.templates(at, scope, depth-1)}
	case k == 4:
		return m.iteration(at, scope, depth)
	}
	other := at + 1 + m.IntN(len(m.program.Components))
	if other >= len(m.program.Components) && !oneIn(m, 60) {
		return m.template(at, scope, depth-1)
	}
	other %= len(m.program.Components)
	t := api.Template{Kind: api.TemplateCall, Name: m.program.Components[other].Name, Key: m.someKey(scope)}
	for _, s := range m.program.Components[other].Params {
		t.Settings = append(t.Settings, api.Setting{Name: s, E: m.expressionFor(s, scope)})
	}
	m.Shuffle(len(t.Settings), func(i, j int) { t.Settings[i], t.Settings[j] = t.Settings[j], t.Settings[i] })
	return t
}

// iteration returns an iteration, mostly one whose views have different keys.
func (m *maker) iteration(at int, scope []string, depth int) api.Template {
	v := fmt.Sprint("s", depth+10)
	inner := append(slices.Clone(scope), v)
	t := api.Template{Kind: api.TemplateEach, Var: v, E: one(m.expressionFor("l", scope)), Key: one(name(v)), Kids: m.templates(at, inner, depth-1)}
	for d := depth + 11; d < 14; d++ {
		if outer := fmt.Sprint("s", d); slices.Contains(scope, outer) {
			t.Key[0] = op(api.OpConcat, name(outer), t.Key[0])
		}
	}
	switch {
	case oneIn(m, 10):
		t.Key[0] = m.expressionFor("s", inner)
	case len(t.Kids) > 1 && !oneIn(m, 5):
		t.Kids = t.Kids[:1]
	}
	return t
}

// fill makes the parts of the component with the index at.
func (m *maker) fill(at int) {
	c := &m.program.Components[at]
	scope := slices.Clone(c.Params)
	for _, s := range some(m, 3, "n5", "b5", "s5", "l5") {
		c.Slots = append(c.Slots, api.Slot{Name: s, Init: m.expressionFor(s, c.Params)})
		scope = append(scope, s)
	}
	for _, s := range some(m, 3, "h1", "h2", "h3") {
		h := api.Handler{Name: s, Params: some(m, 2, "n6", "b6", "s6", "l6")}
		inner := slices.Concat(scope, h.Params)
		for _, s := range some(m, 4, slices.Clone(c.Slots)...) {
			h.Sets = append(h.Sets, api.Assign{Slot: s.Name, E: m.expressionFor(s.Name, inner)})
		}
		for range m.IntN(3) {
			h.Emit = append(h.Emit, m.any(inner))
		}
		c.Handlers = append(c.Handlers, h)
	}
	for range m.IntN(3) {
		f := api.Effect{Emit: m.any(scope)}
		for range m.IntN(3) {
			f.Deps = append(f.Deps, m.any(scope))
		}
		c.Effects = append(c.Effects, f)
	}
	c.Body = m.templates(at, scope, 3)
	if !oneIn(m, 8) {
		// Most components have one view, which gets a key from outside.
		c.Body = []api.Template{{Kind: api.TemplateElement, Name: "group", Kids: append(m.templates(at, scope, 3), m.templates(at, scope, 2)...)}}
	}
}

func (m *maker) make() api.Program {
	m.program, m.keys = api.Program{}, 0
	for _, s := range append([]string{"main"}, some(m, 3, "c1", "c2", "c3")...) {
		m.program.Components = append(m.program.Components, api.Component{Name: s, Params: some(m, 3, "n1", "b1", "s1", "l1", "l2")})
	}
	for i := range m.program.Components {
		m.fill(i)
	}
	return m.program
}

func (m *maker) valueFor(name string) api.Value {
	if oneIn(m, 100) {
		return pick(m, api.Value{}, num(1<<41), seq(num(1), str("")), str("\xFF"), flag(3))
	}
	switch name[0] {
	case 'n':
		return num(m.IntN(5))
	case 'b':
		return flag(m.IntN(2))
	case 's':
		return str(pick(m, "a", "b", "x", "y"))
	}
	if oneIn(m, 10) {
		return nothings(m.IntN(101))
	}
	return texts(some(m, 4, "a", "b", "c", "d", "e", "f")...)
}

func (m *maker) valuesFor(names []string) []api.Value {
	var l []api.Value
	for _, s := range names {
		l = append(l, m.valueFor(s))
	}
	if oneIn(m, 200) {
		l = append(l, num(1))
	}
	return l
}

// action returns an action of a view, or any other one, and further arguments.
func (m *maker) action(p api.Program, v api.View, r api.Running) (api.Action, []api.Value) {
	a := api.Action{Event: "x", Instance: pick(m, "/", "/c1.0", "/none"), Handler: pick(m, "h1", "h2", "h3")}
	if len(r.Instances) > 0 && oneIn(m, 2) {
		a.Instance = pick(m, r.Instances...).Path
	}
	if l := actionsOf(v); len(l) > 0 && !oneIn(m, 3) {
		a = pick(m, l...)
	}
	for _, x := range r.Instances {
		c, _ := namedRead(p, x.Name)
		for _, h := range c.Handlers {
			if x.Path == a.Instance && h.Name == a.Handler && len(a.Args) <= len(h.Params) {
				return a, m.valuesFor(h.Params[len(a.Args):])
			}
		}
	}
	return a, nil
}

// disturb changes a running program, mostly to another one that is valid.
func (m *maker) disturb(p api.Program, r api.Running) api.Running {
	r.Instances = slices.Clone(r.Instances)
	if len(r.Instances) == 0 {
		return r
	}
	i := m.IntN(len(r.Instances))
	x := &r.Instances[i]
	switch m.IntN(8) {
	case 0:
		r.Instances = slices.Delete(r.Instances, i, i+1)
	case 1:
		x.Path += "-"
	case 2, 3:
		c, _ := namedRead(p, x.Name)
		x.Values = slices.Clone(x.Values)
		for j, s := range c.Slots {
			if len(x.Values) == len(c.Slots) {
				x.Values[j] = m.valueFor(s.Name)
			}
		}
	case 4:
		x.Name = pick(m, "main", "c1", "none")
	case 5:
		j := m.IntN(len(r.Instances))
		r.Instances[i], r.Instances[j] = r.Instances[j], r.Instances[i]
	case 6:
		x.Seen = slices.Clone(x.Seen)
		for j, l := range x.Seen {
			x.Seen[j] = slices.Clone(l)
			for k := range l {
				x.Seen[j][k] = m.valueFor(pick(m, "n", "b", "s", "l"))
			}
		}
	case 7:
		x.Args = m.valuesFor([]string{"n"})
	}
	return r
}

// testRendering compares Render with its reading.
func testRendering(t *testing.T, p api.Program, r api.Running, args []api.Value) (api.View, api.Running, api.Errno) {
	t.Helper()
	var wantView api.View
	var wantNext api.Running
	var wantEmitted []api.Value
	want := errorOf(func() { wantView, wantNext, wantEmitted = renderRead(p, r, args) })
	v, next, emitted, e := Render(p, r, args)
	if e != want || showView(v) != showView(wantView) || showRunning(next) != showRunning(wantNext) || showValues(emitted) != showValues(wantEmitted) {
		t.Fatalf("P13.2: Render(%v, %s, %s) = %s\n%s\n%s, %d, want %s\n%s\n%s, %d", p, showRunning(r), showValues(args), showView(v), showRunning(next), showValues(emitted), e, showView(wantView), showRunning(wantNext), showValues(wantEmitted), want)
	}
	if e != api.OK {
		return v, r, e
	}
	again, same, nothing, e := Render(p, next, args)
	if e != api.OK || showView(again) != showView(v) || showRunning(same) != showRunning(next) || len(nothing) != 0 {
		t.Fatalf("P13.6: Render(%v, %s, %s) = %s\n%s\n%s, %d", p, showRunning(next), showValues(args), showView(again), showRunning(same), showValues(nothing), e)
	}
	return v, next, e
}

func testHandling(t *testing.T, p api.Program, r api.Running, a api.Action, args []api.Value) (api.Running, api.Errno) {
	t.Helper()
	var wantNext api.Running
	var wantEmitted []api.Value
	want := errorOf(func() { wantNext, wantEmitted = handleRead(p, r, a, args) })
	next, emitted, e := Handle(p, r, a, args)
	if e != want || showRunning(next) != showRunning(wantNext) || showValues(emitted) != showValues(wantEmitted) {
		t.Fatalf("P13.5: Handle(%v, %s, %v, %s) = %s\n%s, %d, want %s\n%s, %d", p, showRunning(r), a, showValues(args), showRunning(next), showValues(emitted), e, showRunning(wantNext), showValues(wantEmitted), want)
	}
	if e != api.OK {
		return r, e
	}
	return next, e
}

// TestByChance runs programs with events and changes of their arguments and instances.
func TestByChance(t *testing.T) {
	m, rendered, handled := newMaker(1), map[api.Errno]int{}, map[api.Errno]int{}
	views, instances := 0, 0
	for range 4000 {
		p := m.make()
		r := api.Running{}
		for range 6 {
			v, next, e := testRendering(t, p, r, m.valuesFor(p.Components[0].Params))
			r = next
			rendered[e]++
			if e == api.OK && len(v.Kids) > 2 {
				views++
			}
			if e == api.OK && len(r.Instances) > 2 {
				instances++
			}
			for range min(4*len(r.Instances), m.IntN(4)) {
				a, args := m.action(p, v, r)
				r, e = testHandling(t, p, r, a, args)
				handled[e]++
			}
			if oneIn(m, 4) {
				r = m.disturb(p, r)
			}
		}
	}
	if views < 1000 || instances < 1000 {
		t.Errorf("P13.2: only %d views have several children, and only %d programs several instances", views, instances)
	}
	for _, e := range []api.Errno{api.OK, api.ErrRange, api.ErrTooLong, api.ErrName, api.ErrType, api.ErrDuplicate, api.ErrDepth, api.ErrKind, api.ErrState} {
		if rendered[e] < 10 {
			t.Errorf("P13.2: Render has the error %d only %d times", e, rendered[e])
		}
	}
	for _, e := range []api.Errno{api.OK, api.ErrRange, api.ErrType, api.ErrKind, api.ErrMissing, api.ErrState} {
		if handled[e] < 10 {
			t.Errorf("P13.5: Handle has the error %d only %d times", e, handled[e])
		}
	}
}

// stringsOf returns pointers to the texts of a program.
func stringsOf(p api.Program) []*string {
	var l []*string
	for i := range p.Components {
		c := &p.Components[i]
		l = append(l, &c.Name)
		for i := range c.Params {
			l = append(l, &c.Params[i])
		}
		for i := range c.Slots {
			l = append(l, &c.Slots[i].Name)
		}
		for _, h := range c.Handlers {
			for i := range h.Params {
				l = append(l, &h.Params[i])
			}
			for i := range h.Sets {
				l = append(l, &h.Sets[i].Slot)
			}
		}
		for i := range c.Handlers {
			l = append(l, &c.Handlers[i].Name)
		}
		for _, t := range templatesOf(c.Body) {
			l = append(l, &t.Name, &t.Var)
			for i := range t.Settings {
				l = append(l, &t.Settings[i].Name)
			}
			for i := range t.Hooks {
				l = append(l, &t.Hooks[i].Event, &t.Hooks[i].Handler)
			}
		}
	}
	return l
}

// spoil changes a part of a program.
func (m *maker) spoil(p *api.Program) {
	var all []*api.Template
	for _, c := range p.Components {
		all = append(all, templatesOf(c.Body)...)
	}
	names := []string{"", "main", "c1", "c2", "n1", "s1", "l1", "n5", "b5", "n6", "s6", "s13", "h1", "h2", "group", "9", strings.Repeat("a", 25)}
	switch k := m.IntN(8); {
	case k < 4:
		*pick(m, stringsOf(*p)...) = pick(m, names...)
	case k == 4:
		if l := expressionsOf(*p); len(l) > 0 {
			*pick(m, l...) = pick(m, name(pick(m, names...)), api.Expr{}, op(api.OpList, lit(1), name("none"), lit(1<<50)), op(api.OpNot, name("n1")))
		}
	case k == 5:
		c := &p.Components[m.IntN(len(p.Components))]
		c.Slots, c.Handlers, c.Effects = some(m, 4, c.Slots...), some(m, 4, c.Handlers...), some(m, 4, c.Effects...)
	case len(all) > 0:
		m.spoilTemplate(pick(m, all...))
	}
}

func (m *maker) spoilTemplate(t *api.Template) {
	switch m.IntN(8) {
	case 0:
		t.Kind = m.IntN(6)
	case 1:
		t.Key = some(m, 2, lit(1), name("s13"), quoted("a"))
	case 2:
		t.E = some(m, 2, lit(1), name("b1"), name("l1"))
	case 3:
		t.Settings = append(slices.Clone(t.Settings), api.Setting{Name: pick(m, "n1", "l2", "C"), E: lit(1)})
	case 4:
		t.Settings = t.Settings[:len(t.Settings)/2]
	case 5:
		t.Hooks = append(slices.Clone(t.Hooks), api.Hook{Event: pick(m, "press", "Long"), Handler: pick(m, "h1", "h2")})
	case 6:
		t.Kids = append(slices.Clone(t.Kids), api.Template{Kind: api.TemplateEach, Var: pick(m, "s12", "s13", "v"), E: one(lit(1)), Key: one(name("s13"))})
	case 7:
		for range m.IntN(16) {
			*t = view("group", *t)
		}
	}
}

// TestSpoiltPrograms compares Validate with its reading.
func TestSpoiltPrograms(t *testing.T) {
	m, seen := newMaker(2), map[api.Errno]int{}
	for range 30000 {
		p := m.make()
		for range m.IntN(4) {
			m.spoil(&p)
		}
		want := errorOf(func() { validateRead(p) })
		if got := Validate(p); got != want {
			t.Fatalf("P13.1: Validate(%v) = %d, want %d", p, got, want)
		}
		seen[want]++
		if want == api.OK {
			testRendering(t, p, api.Running{}, m.valuesFor(p.Components[0].Params))
		}
	}
	for _, e := range []api.Errno{api.OK, api.ErrName, api.ErrDuplicate, api.ErrMissing, api.ErrDepth, api.ErrKind} {
		if seen[e] < 100 {
			t.Errorf("P13.1: the programs have the error %d only %d times", e, seen[e])
		}
	}
}
