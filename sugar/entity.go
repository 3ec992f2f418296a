package sugar

import (
	"hackamore/api"
	"hackamore/parts"
	"hackamore/syntax"
)

// entity returns an entity of the module, and those that are made of it.
func (w *work) entity(p parts.Part) []api.Node {
	fields, methods := members(p.From(4))
	h := &home{name: p.Text, bounds: []*bounds{newBounds(p.Kids[2])}, fields: map[string]bool{}, methods: methodsOf(methods)}
	for _, f := range fields {
		h.fields[f.Text] = true
	}
	w.scope = newScope(h, h.bounds)
	w.rewriteBounds(h.bounds[0], p.Kids[2])
	n := node(syntax.Entity, p.Text, p.Kids[0], p.Kids[1], allBounds(h.bounds), w.typ(p.Kids[3]))
	plainFields, plainMethods := w.members(p, fields, methods)
	n.Kids = append(n.Kids, plainFields...)
	n.Kids = append(n.Kids, plainMethods...)
	made := w.finish()
	return append([]api.Node{n}, made...)
}

// members rewrites the members of an entity of the module in their order, with the constructor that it may get.
func (w *work) members(p parts.Part, fields []parts.Part, methods []function) (plainFields, plainMethods []api.Node) {
	values := valued(fields)
	lacking := needsCreate(p.Kids[0].Text, methods) && len(values) == len(fields)
	create := func() {
		if lacking {
			lacking = false
			plainMethods = append(plainMethods, w.create(values))
		}
	}
	for _, k := range p.From(4) {
		if k.Kind == syntax.Field {
			plainFields = append(plainFields, w.field(k))
			continue
		}
		create()
		method := w.method(functionOf(k), values)
		plainMethods = append(plainMethods, method)
	}
	create()
	return plainFields, plainMethods
}

// valued returns the fields with values.
func valued(fields []parts.Part) []parts.Part {
	var l []parts.Part
	for _, f := range fields {
		if !f.Kid(2).Nothing() {
			l = append(l, f)
		}
	}
	return l
}

func needsCreate(kind string, methods []function) bool {
	for _, f := range methods {
		if f.kind == "new" {
			return false
		}
	}
	return kind == "class" || kind == "actor"
}

// create returns the constructor of an entity that has none.
func (w *work) create(values []parts.Part) api.Node {
	body := seq(append(w.values(values), this())...)
	return constructor(nil, body)
}

func constructor(params []api.Node, body api.Node) api.Node {
	return node(syntax.Method, "create", word("new"), word(""), node(syntax.Bounds, ""), node(syntax.Params, "", params...), nothing(), word(""), body)
}

// field rewrites a field without its value.
func (w *work) field(p parts.Part) api.Node {
	return node(syntax.Field, p.Text, p.Kids[0], w.typ(p.Kids[1]), nothing())
}

// values returns the assignments of the fields' values, in which no local is in scope.
func (w *work) values(fields []parts.Part) []api.Node {
	var l []api.Node
	for _, f := range fields {
		value := w.again(f.Kid(2), newScope(w.scope.home, w.scope.bounds))
		l = append(l, assign(field(f.Text), value))
	}
	return l
}

// method rewrites a method; values are those of fields, for constructors.
func (w *work) method(f function, values []parts.Part) api.Node {
	own := newBounds(f.bounds)
	around := w.scope.bounds
	s := newScope(w.scope.home, append(around[:len(around):len(around)], own))
	return w.in(s, func() api.Node {
		w.rewriteBounds(own, f.bounds)
		params := w.params(f.params)
		result := w.typ(f.result)
		body := w.body(f, values)
		return node(syntax.Method, f.name, word(f.kind), word(f.capability), node(syntax.Bounds, "", own.kids...), params, result, word(f.partial), body)
	})
}

// params rewrites parameters without default values, and takes them as locals.
func (w *work) params(l []parts.Part) api.Node {
	n := node(syntax.Params, "")
	for _, p := range l {
		n.Kids = append(n.Kids, node(syntax.Param, p.Text, w.typ(p.Kids[0]), nothing()))
		w.scope.declare(p.Text, p.Kids[0])
	}
	return n
}

func (w *work) body(f function, values []parts.Part) api.Node {
	if f.kind != "new" || len(values) == 0 {
		return w.expr(f.body)
	}
	l := w.values(values)
	if f.body.Nothing() {
		return seq(append(l, this())...)
	}
	body := w.expr(f.body)
	return seq(append(l, body)...)
}
