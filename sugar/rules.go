package sugar

import (
	"hackamore/api"
	"hackamore/parts"
	"hackamore/syntax"
)

// rules returns the rules by the kinds of expressions; a missing one is left as it is.
func rules() [syntax.Last + 1]rule {
	leaf := func(w *work, p parts.Part) api.Node { return p.Node }
	loose := func(w *work, p parts.Part) api.Node { fail(ErrChain, p); return api.Node{} }
	return [syntax.Last + 1]rule{
		syntax.Nothing:   leaf,
		syntax.Word:      leaf,
		syntax.IntLit:    leaf,
		syntax.FloatLit:  leaf,
		syntax.StringLit: leaf,
		syntax.BoolLit:   leaf,
		syntax.This:      leaf,
		syntax.Error:     leaf,
		syntax.Break:     leaf,
		syntax.Continue:  leaf,
		syntax.Tilde:     loose,
		syntax.Chain:     loose,
		syntax.Dot:       (*work).same,
		syntax.Tuple:     (*work).same,
		syntax.Consume:   (*work).same,
		syntax.Return:    (*work).same,
		syntax.Seq:       (*work).seq,
		syntax.Name:      (*work).name,
		syntax.Decl:      (*work).decl,
		syntax.Assign:    (*work).assign,
		syntax.Call:      (*work).call,
		syntax.Qualify:   (*work).qualify,
		syntax.Array:     (*work).array,
		syntax.Unary:     (*work).unary,
		syntax.Binary:    (*work).binary,
		syntax.As:        (*work).as,
		syntax.Recover:   (*work).bodies,
		syntax.Try:       (*work).bodies,
		syntax.If:        (*work).branches,
		syntax.While:     (*work).branches,
		syntax.Ifdef:     (*work).ifdef,
		syntax.Repeat:    (*work).repeat,
		syntax.For:       (*work).forLoop,
		syntax.With:      (*work).with,
		syntax.Match:     (*work).match,
		syntax.Object:    (*work).object,
		syntax.Lambda:    (*work).lambda,
	}
}

// same rewrites the kids alone.
func (w *work) same(p parts.Part) api.Node {
	n := node(p.Kind, p.Text)
	for _, k := range p.From(0) {
		n.Kids = append(n.Kids, w.expr(k))
	}
	return n
}

func (w *work) seq(p parts.Part) api.Node {
	return seq(w.same(p).Kids...)
}

func (w *work) name(p parts.Part) api.Node {
	if parts.IsUpper(p.Text) {
		return p.Node
	}
	meaning, _ := w.scope.find(p.Text)
	if meaning == isField || meaning == isCapture {
		return field(p.Text)
	}
	return p.Node
}

func (w *work) decl(p parts.Part) api.Node {
	n := node(syntax.Decl, p.Text, p.Kids[0], w.typ(p.Kids[1]))
	w.scope.declare(p.Text, p.Kids[1])
	return n
}

// qualify makes a method of a lower name that is nothing else, if the name itself has the type arguments.
func (w *work) qualify(p parts.Part) api.Node {
	f := p.Kid(0)
	e := w.expr(f)
	if f.Kind == syntax.Name && !parts.IsUpper(f.Text) {
		if meaning, _ := w.scope.find(f.Text); meaning == unknown {
			e = field(f.Text)
		}
	}
	return node(syntax.Qualify, "", append([]api.Node{e}, w.types(p.Kids[1:])...)...)
}

func (w *work) types(l []api.Node) []api.Node {
	var out []api.Node
	for _, t := range l {
		out = append(out, w.typ(t))
	}
	return out
}

func (w *work) unary(p parts.Part) api.Node {
	method := map[string]string{"not": "op_not", "-": "neg"}[p.Text]
	return call(w.expr(p.Kid(0)), method)
}

func (w *work) binary(p parts.Part) api.Node {
	left := w.expr(p.Kid(0))
	right := w.expr(p.Kid(1))
	switch p.Text {
	case "is", "isnt":
		return node(syntax.Binary, p.Text, left, right)
	case "and":
		return node(syntax.If, "", left, right, truth("false"))
	case "or":
		return node(syntax.If, "", left, truth("true"), right)
	}
	method, partial := operator(p.Text)
	return called(dot(left, method), partial, []api.Node{right})
}

// operator returns the method of an operator, and `?` for one that ends so.
func operator(s string) (method, partial string) {
	names := map[string]string{"+": "add", "-": "sub", "*": "mul", "/": "div", "%": "rem", "<<": "shl", ">>": "shr", "==": "eq",
		"!=": "ne", "<": "lt", "<=": "le", ">": "gt", ">=": "ge", "xor": "op_xor"}
	if method, ok := names[s]; ok {
		return method, ""
	}
	return names[s[:1]] + "_partial", "?"
}

// as matches an operand with one type.
func (w *work) as(p parts.Part) api.Node {
	k := w.newLocal()
	e := w.expr(p.Kid(0))
	one := node(syntax.Case, "", let(k, w.typ(p.Kids[1])), nothing(), node(syntax.Consume, "", name(k)))
	return node(syntax.Match, "", e, node(syntax.Error, ""), one)
}

func (w *work) array(p parts.Part) api.Node {
	k := w.newLocal()
	kept := named("Array", "ref", "", []api.Node{w.typ(p.Kids[0])})
	made := node(syntax.Qualify, "", name("Array"), w.typ(p.Kids[0]))
	l := []api.Node{assign(let(k, kept), call(made, "create"))}
	for _, e := range p.From(1) {
		l = append(l, call(name(k), "push", w.expr(e)))
	}
	return seq(append(l, node(syntax.Consume, "", name(k)))...)
}

// bodies rewrites kids each of which is a body.
func (w *work) bodies(p parts.Part) api.Node {
	n := node(p.Kind, p.Text)
	for _, k := range p.From(0) {
		n.Kids = append(n.Kids, w.scoped(k))
	}
	return n
}

// branches rewrites a condition, whose locals are in scope in the bodies behind it.
func (w *work) branches(p parts.Part) api.Node {
	return w.in(w.scope.inner(), func() api.Node {
		condition := w.expr(p.Kid(0))
		body := w.scoped(p.Kid(1))
		return node(p.Kind, "", condition, body, w.scoped(p.Kid(2)))
	})
}

// ifdef leaves the part that is taken.
func (w *work) ifdef(p parts.Part) api.Node {
	holds, wrong, e := parts.Holds(p.Kid(0), w.flags)
	switch {
	case e != api.OK:
		fail(e, wrong)
	case holds:
		return w.expr(p.Kid(1))
	case p.Kid(2).Nothing():
		return name("None")
	}
	return w.expr(p.Kid(2))
}

func (w *work) repeat(p parts.Part) api.Node {
	k := w.newLocal()
	return w.in(w.scope.inner(), func() api.Node {
		body := w.scoped(p.Kid(0))
		until := call(w.expr(p.Kid(1)), "op_not")
		first := seq(assign(name(k), truth("false")), truth("true"))
		condition := node(syntax.If, "", name(k), first, until)
		flag := node(syntax.Decl, k, word("var"), named("Bool", "", "", nil))
		return seq(assign(flag, truth("true")), node(syntax.While, "", condition, body, nothing()))
	})
}

func (w *work) forLoop(p parts.Part) api.Node {
	k := w.newLocal()
	return w.in(w.scope.inner(), func() api.Node {
		kept := let(k, named("Iterator", "ref", "", []api.Node{w.typ(p.Kids[0])}))
		iterator := w.expr(p.Kid(1))
		body := w.in(w.scope.inner(), func() api.Node {
			next := node(syntax.Try, "", called(dot(name(k), "next"), "?", nil), node(syntax.Break, ""), nothing())
			value := assign(let(p.Text, w.typ(p.Kids[0])), next)
			w.scope.declare(p.Text, p.Kids[0])
			return seq(value, w.expr(p.Kid(2)))
		})
		otherwise := w.scoped(p.Kid(3))
		return seq(assign(kept, iterator), node(syntax.While, "", call(name(k), "has_next"), body, otherwise))
	})
}

// with leaves its name in scope behind it.
func (w *work) with(p parts.Part) api.Node {
	kept := let(p.Text, w.typ(p.Kids[0]))
	value := w.expr(p.Kid(1))
	w.scope.declare(p.Text, p.Kids[0])
	body := w.scoped(p.Kid(2))
	dispose := call(name(p.Text), "dispose")
	return seq(assign(kept, value), node(syntax.Try, "", body, node(syntax.Error, ""), dispose))
}
