package source

import "widgetry/api"

func (p *parser) program() api.Program {
	var l []api.Component
	for len(l) == 0 || p.first.kind != tokenEnd {
		l = append(l, part(p, "component", p.component))
	}
	return api.Program{Components: l}
}

func (p *parser) component() api.Component {
	return api.Component{
		Name:     p.name(),
		Params:   p.names(),
		Slots:    while(p, "state", p.slot),
		Handlers: while(p, "on", p.handler),
		Effects:  while(p, "effect", p.effect),
		Body:     p.templates(1),
	}
}

func (p *parser) slot() api.Slot {
	return api.Slot{Name: p.name(), Init: p.outermost()}
}

func (p *parser) handler() api.Handler {
	return api.Handler{
		Name:   p.name(),
		Params: p.names(),
		Sets:   while(p, "set", p.assign),
		Emit:   until(p, func() api.Expr { return part(p, "emit", p.outermost) }),
	}
}

func (p *parser) assign() api.Assign {
	return api.Assign{Slot: p.name(), E: p.outermost()}
}

func (p *parser) effect() api.Effect {
	p.take(tokenOpen)
	deps := p.expressions()
	p.take(tokenClose)
	return api.Effect{Deps: deps, Emit: p.outermost()}
}

// templates parses templates that are nested that deep, up to a ")".
func (p *parser) templates(depth int) []api.Template {
	return until(p, func() api.Template { return p.template(depth) })
}

func (p *parser) template(depth int) api.Template {
	open, word := p.take(tokenOpen), p.take(tokenWord)
	kind, ok := templateKind(word.text)
	if !ok {
		panic(failure{word.from, api.ErrSyntax})
	}
	limitDepth(open, depth)
	t := p.content(kind, depth)
	p.take(tokenClose)
	return t
}

// content parses what a template contains after its word.
func (p *parser) content(kind, depth int) api.Template {
	t := api.Template{Kind: kind}
	switch kind {
	case api.TemplateElement:
		t.Name = p.viewWord()
		t.Key = p.key()
		t.Settings = while(p, "attr", p.setting)
		t.Hooks = while(p, "event", p.hook)
		t.Kids = p.templates(depth + 1)
	case api.TemplateIf:
		t.E = []api.Expr{p.outermost()}
		t.Kids = p.templates(depth + 1)
	case api.TemplateEach:
		t.Var = p.name()
		t.E = []api.Expr{p.outermost()}
		t.Key = []api.Expr{p.outermost()}
		t.Kids = p.templates(depth + 1)
	case api.TemplateCall:
		t.Name = p.name()
		t.Key = p.key()
		t.Settings = until(p, func() api.Setting { return part(p, "attr", p.setting) })
	}
	return t
}

func (p *parser) viewWord() string {
	t := p.take(tokenWord)
	if !isViewWord(t.text) {
		panic(failure{t.from, api.ErrKind})
	}
	return t.text
}

// key parses a key, if there is one.
func (p *parser) key() []api.Expr {
	if !p.begins("key") {
		return nil
	}
	return []api.Expr{part(p, "key", p.outermost)}
}

func (p *parser) setting() api.Setting {
	return api.Setting{Name: p.name(), E: p.outermost()}
}

func (p *parser) hook() api.Hook {
	return api.Hook{Event: p.name(), Handler: p.name(), Args: p.expressions()}
}
