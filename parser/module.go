package parser

import (
	"hackamore/api"
	"hackamore/syntax"
	"hackamore/token"
)

func (r *reader) module() api.Node {
	m := node(syntax.Module, "")
	for r.stands("use") {
		use := r.use()
		m.Kids = append(m.Kids, use)
	}
	for r.at < len(r.tokens) {
		entity := r.entity()
		m.Kids = append(m.Kids, entity)
	}
	return m
}

func (r *reader) use() api.Node {
	r.need("use")
	t := r.next()
	if t.Kind != token.String {
		r.refuse()
	}
	n := node(syntax.Use, t.Text, nothing())
	if syntax.Check(n) != api.OK {
		r.fail(api.ErrForm)
	}
	r.at++
	n.Kids[0] = r.maybe("if", r.infix)
	return n
}

func (r *reader) entity() api.Node {
	if !r.stands("class", "actor", "primitive", "trait", "interface", "type") {
		r.refuse()
	}
	kind := r.next().Text
	r.at++
	capability := r.capability()
	n := node(syntax.Entity, r.name(), word(kind), capability)
	bounds := r.bounds()
	if kind == "type" {
		r.need("is")
		n.Kids = append(n.Kids, bounds, r.typ())
		return n
	}
	n.Kids = append(n.Kids, bounds, r.maybe("is", r.typ))
	n.Kids = append(n.Kids, r.members()...)
	return n
}

func (r *reader) bounds() api.Node {
	n := node(syntax.Bounds, "")
	if r.take("[") {
		n.Kids = list(r, ",", func() api.Node {
			name := r.name()
			return node(syntax.Bound, name, r.maybe(":", r.typ))
		})
		r.need("]")
	}
	return n
}

// members reads fields, and then methods.
func (r *reader) members() []api.Node {
	var l []api.Node
	for r.stands("var", "let") {
		field := r.field()
		l = append(l, field)
	}
	for r.stands("new", "fun", "be") {
		method := r.method()
		l = append(l, method)
	}
	return l
}

func (r *reader) field() api.Node {
	n := r.decl()
	return node(syntax.Field, n.Text, n.Kids[0], n.Kids[1], r.maybe("=", r.infix))
}

func (r *reader) method() api.Node {
	kind := r.next().Text
	r.at++
	capability := r.capability()
	n := node(syntax.Method, r.name(), word(kind), capability)
	bounds := r.bounds()
	params := r.params()
	result := r.maybe(":", r.typ)
	partial := r.flag("?")
	n.Kids = append(n.Kids, bounds, params, result, partial, r.maybe("=>", r.seq))
	return n
}

func (r *reader) params() api.Node {
	return node(syntax.Params, "", within(r, func() api.Node {
		name, typ := r.typed()
		return node(syntax.Param, name, typ, r.maybe("=", r.infix))
	})...)
}

// typed reads a name with its type.
func (r *reader) typed() (string, api.Node) {
	name := r.name()
	r.need(":")
	return name, r.typ()
}

func (r *reader) typ() api.Node {
	left := r.atype()
	if !r.take("->") {
		return left
	}
	return node(syntax.ArrowType, "", left, r.typ())
}

func (r *reader) atype() api.Node {
	switch {
	case r.take("this"):
		return node(syntax.ThisType, "")
	case r.take("("):
		l := list(r, ",", r.inner)
		r.need(")")
		return group(syntax.TupleType, l)
	case r.take("{"):
		return r.lambdaType()
	}
	return r.named()
}

// group returns a node of some parts, or the part if there is one alone.
func group(kind int, l []api.Node) api.Node {
	if len(l) == 1 {
		return l[0]
	}
	return node(kind, "", l...)
}

func (r *reader) named() api.Node {
	name := r.name()
	if r.near(".") {
		r.at++
		name = name + "." + r.name()
	}
	var args []api.Node
	if r.near("[") {
		r.at++
		args = list(r, ",", r.typ)
		r.need("]")
	}
	capability := word(r.one(r.generics))
	n := node(syntax.NamedType, name, capability, r.mark())
	n.Kids = append(n.Kids, args...)
	return n
}

func (r *reader) inner() api.Node {
	l := list(r, "|", r.typ)
	if len(l) > 1 {
		if r.stands("&") {
			r.fail(ErrMix)
		}
		return node(syntax.UnionType, "", l...)
	}
	for r.take("&") {
		part := r.typ()
		l = append(l, part)
	}
	if len(l) > 1 && r.stands("|") {
		r.fail(ErrMix)
	}
	return group(syntax.BothType, l)
}

// lambdaType reads a type of functions behind its bracket.
func (r *reader) lambdaType() api.Node {
	params := within(r, r.typ)
	result := r.maybe(":", r.typ)
	partial := r.flag("?")
	r.need("}")
	capability := r.capability()
	n := node(syntax.LambdaType, "", capability, r.mark(), partial, result)
	n.Kids = append(n.Kids, params...)
	return n
}
