package sugar

import (
	"hackamore/api"
	"hackamore/parts"
	"hackamore/syntax"
)

// capture is a field that a lambda gets with a value.
type capture struct {
	name  string
	typ   api.Node
	value parts.Part
}

// literal is what an object literal or a lambda is made of.
type literal struct {
	capability string
	provides   api.Node
	fields     []parts.Part
	methods    []function
	captures   []capture
}

func (w *work) object(p parts.Part) api.Node {
	fields, methods := members(p.From(2))
	return w.literal(literal{capability: p.Kids[0].Text, provides: p.Kids[1], fields: fields, methods: methods})
}

func (w *work) lambda(p parts.Part) api.Node {
	apply := function{params: p.Kid(1).From(0), result: p.Kids[2], partial: p.Kids[3].Text, body: p.Kid(4)}
	var captures []capture
	for _, c := range p.From(5) {
		captures = append(captures, capture{c.Text, c.Kids[0], c.Kid(1)})
	}
	return w.literal(functionLiteral(p.Kids[0].Text, apply, captures))
}

// functionLiteral returns the literal of a lambda with a capability, of whose method parameters, result and body are given.
func functionLiteral(capability string, apply function, captures []capture) literal {
	apply.kind, apply.name, apply.capability = "fun", "apply", applyCap(capability)
	apply.bounds = node(syntax.Bounds, "")
	return literal{capability: capability, provides: nothing(), methods: []function{apply}, captures: captures}
}

// entityKind returns actor, if one of the methods is a behaviour.
func (l literal) entityKind() string {
	for _, f := range l.methods {
		if f.kind == "be" {
			return "actor"
		}
	}
	return "class"
}

// home returns the entity of a literal that stands in a scope.
func (l literal) home(name string, around *scope) *home {
	h := &home{name: name, bounds: around.bounds, fields: map[string]bool{}, methods: methodsOf(l.methods), inDefault: around.home.inDefault, around: around}
	for _, f := range l.fields {
		h.fields[f.Text] = true
	}
	for _, c := range l.captures {
		h.fields[c.name] = true
	}
	return h
}

// literal makes an entity, and returns what creates an object of it.
func (w *work) literal(l literal) api.Node {
	around := w.scope
	m := w.begin(l.entityKind(), around.bounds)
	defer w.keep(m)
	h := l.home(m.node.Text, around)
	w.scope = newScope(h, h.bounds)
	m.node.Kids[3] = w.typ(l.provides)
	var fields, methods []api.Node
	for _, f := range l.fields {
		fields = append(fields, w.field(f))
	}
	values := w.literalValues(l.fields)
	for _, f := range l.methods {
		if f.kind == "new" {
			fail(api.ErrForm, f.at)
		}
		methods = append(methods, w.method(f, nil))
	}
	w.scope = around
	b := w.bring(l.captures, h.captured)
	body := append(b.sets, values...)
	create := constructor(b.params, seq(append(body, this())...))
	for _, members := range [][]api.Node{b.fields, fields, {create}, methods} {
		m.node.Kids = append(m.node.Kids, members...)
	}
	return l.creation(m.node.Text, around.bounds, b.args)
}

// literalValues returns the assignments of the values of a literal's fields, in which the locals that it takes are parameters.
func (w *work) literalValues(fields []parts.Part) []api.Node {
	h := w.scope.home
	h.inValues = true
	var l []api.Node
	for _, f := range valued(fields) {
		value := w.in(newScope(h, h.bounds), func() api.Node { return w.expr(f.Kid(2)) })
		l = append(l, assign(field(f.Text), value))
	}
	h.inValues = false
	return l
}

// brought is what a literal gets from where it stands.
type brought struct {
	fields, params, sets, args []api.Node
}

// bring rewrites the types and values of captures, and then of the locals that are taken.
func (w *work) bring(captures []capture, taken []local) brought {
	var b brought
	for _, t := range taken {
		captures = append(captures[:len(captures):len(captures)], capture{t.name, t.typ, parts.Root(name(t.name))})
	}
	for _, c := range captures {
		b.fields = append(b.fields, node(syntax.Field, c.name, word("let"), w.typ(c.typ), nothing()))
		b.params = append(b.params, node(syntax.Param, c.name, w.typ(c.typ), nothing()))
		b.sets = append(b.sets, assign(field(c.name), name(c.name)))
		b.args = append(b.args, w.expr(c.value))
	}
	return b
}

// creation returns the call that creates an object of the entity with a name.
func (l literal) creation(entity string, bs []*bounds, args []api.Node) api.Node {
	callee := name(entity)
	if types := arguments(bs); len(types) > 0 {
		callee = node(syntax.Qualify, "", append([]api.Node{callee}, types...)...)
	}
	n := call(callee, "create", args...)
	if l.entityKind() == "actor" || l.capability == "" || l.capability == "ref" {
		return n
	}
	return node(syntax.Recover, "", word(l.capability), n)
}
