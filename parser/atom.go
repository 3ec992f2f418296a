package parser

import (
	"hackamore/api"
	"hackamore/syntax"
	"hackamore/token"
)

// atoms returns the methods that read atoms, by the keywords and symbols with which these begin.
func atoms() map[string]func(*reader) api.Node {
	truth := func(r *reader) api.Node {
		s := r.fixed()
		r.at++
		return node(syntax.BoolLit, s)
	}
	return map[string]func(*reader) api.Node{
		"true":    truth,
		"false":   truth,
		"this":    (*reader).this,
		"var":     (*reader).decl,
		"let":     (*reader).decl,
		"(":       (*reader).brackets,
		"[":       (*reader).array,
		"if":      (*reader).branches,
		"ifdef":   (*reader).ifdef,
		"while":   (*reader).while,
		"repeat":  (*reader).repeat,
		"for":     (*reader).forLoop,
		"with":    (*reader).with,
		"match":   (*reader).match,
		"try":     (*reader).try,
		"recover": (*reader).recovered,
		"object":  (*reader).object,
		"{":       (*reader).lambda,
	}
}

func (r *reader) atom() api.Node {
	t := r.next()
	kinds := map[int]int{token.Int: syntax.IntLit, token.Float: syntax.FloatLit, token.String: syntax.StringLit}
	if kind := kinds[t.Kind]; kind != 0 {
		r.at++
		return node(kind, t.Text)
	}
	if read := r.atoms[r.fixed()]; read != nil {
		return read(r)
	}
	return node(syntax.Name, r.name())
}

func (r *reader) this() api.Node {
	r.need("this")
	return node(syntax.This, "")
}

// decl reads a variable with its type; it is an atom, and the beginning of a field.
func (r *reader) decl() api.Node {
	kind := r.fixed()
	r.at++
	name, typ := r.typed()
	return node(syntax.Decl, name, word(kind), typ)
}

func (r *reader) brackets() api.Node {
	r.need("(")
	l := list(r, ",", r.seq)
	r.need(")")
	return group(syntax.Tuple, l)
}

func (r *reader) array() api.Node {
	r.need("[")
	r.need("as")
	n := node(syntax.Array, "", r.typ())
	r.need(":")
	if !r.stands("]") {
		n.Kids = append(n.Kids, dissolved(r.stats())...)
	}
	r.need("]")
	return n
}

// branches reads an if, or what stands from an elseif on, up to the end that both have.
func (r *reader) branches() api.Node {
	r.at++
	condition := r.seq()
	r.need("then")
	then := r.seq()
	if r.stands("elseif") {
		return node(syntax.If, "", condition, then, r.branches())
	}
	return node(syntax.If, "", condition, then, r.otherwise())
}

// otherwise reads an else, which may be missing, and the end.
func (r *reader) otherwise() api.Node {
	n := r.maybe("else", r.seq)
	r.need("end")
	return n
}

func (r *reader) ifdef() api.Node {
	r.need("ifdef")
	condition := r.infix()
	r.need("then")
	then := r.seq()
	return node(syntax.Ifdef, "", condition, then, r.otherwise())
}

func (r *reader) while() api.Node {
	r.need("while")
	condition := r.seq()
	r.need("do")
	body := r.seq()
	return node(syntax.While, "", condition, body, r.otherwise())
}

func (r *reader) repeat() api.Node {
	r.need("repeat")
	body := r.seq()
	r.need("until")
	condition := r.seq()
	r.need("end")
	return node(syntax.Repeat, "", body, condition)
}

func (r *reader) forLoop() api.Node {
	r.need("for")
	name, typ := r.typed()
	r.need("in")
	iterator := r.seq()
	r.need("do")
	body := r.seq()
	return node(syntax.For, name, typ, iterator, body, r.otherwise())
}

func (r *reader) with() api.Node {
	r.need("with")
	name, typ := r.typed()
	r.need("=")
	value := r.infix()
	r.need("do")
	body := r.seq()
	r.need("end")
	return node(syntax.With, name, typ, value, body)
}

func (r *reader) match() api.Node {
	r.need("match")
	n := node(syntax.Match, "", r.seq(), nothing())
	if !r.stands("|") {
		r.refuse()
	}
	for r.take("|") {
		pattern := r.infix()
		guard := r.maybe("if", r.infix)
		r.need("=>")
		body := r.seq()
		n.Kids = append(n.Kids, node(syntax.Case, "", pattern, guard, body))
	}
	n.Kids[1] = r.otherwise()
	return n
}

func (r *reader) try() api.Node {
	r.need("try")
	body := r.seq()
	otherwise := r.maybe("else", r.seq)
	then := r.maybe("then", r.seq)
	r.need("end")
	return node(syntax.Try, "", body, otherwise, then)
}

func (r *reader) recovered() api.Node {
	r.need("recover")
	capability := r.capability()
	body := r.seq()
	r.need("end")
	return node(syntax.Recover, "", capability, body)
}

func (r *reader) object() api.Node {
	r.need("object")
	capability := r.capability()
	n := node(syntax.Object, "", capability, r.maybe("is", r.typ))
	n.Kids = append(n.Kids, r.members()...)
	r.need("end")
	return n
}

func (r *reader) lambda() api.Node {
	r.need("{")
	params := r.params()
	var captures []api.Node
	if r.take("(") {
		captures = list(r, ",", func() api.Node {
			name, typ := r.typed()
			r.need("=")
			return node(syntax.Capture, name, typ, r.infix())
		})
		r.need(")")
	}
	result := r.maybe(":", r.typ)
	partial := r.flag("?")
	r.need("=>")
	body := r.seq()
	r.need("}")
	capability := r.capability()
	return node(syntax.Lambda, "", append([]api.Node{capability, params, result, partial, body}, captures...)...)
}
