package parser

import (
	"hackamore/api"
	"hackamore/syntax"
	"hackamore/token"
)

func (r *reader) seq() api.Node {
	return group(syntax.Seq, r.stats())
}

// stats reads a seq, of which Seqs among several parts are dissolved.
func (r *reader) stats() []api.Node {
	first := r.stat()
	l := []api.Node{first}
	for r.at < len(r.tokens) && !r.stops[r.fixed()] {
		if !r.take(";") && !r.next().Line {
			r.refuse()
		}
		stat := r.stat()
		l = append(l, stat)
	}
	if len(l) == 1 {
		return l
	}
	return dissolved(l)
}

func dissolved(l []api.Node) []api.Node {
	var out []api.Node
	for _, n := range l {
		if n.Kind == syntax.Seq {
			out = append(out, n.Kids...)
		} else {
			out = append(out, n)
		}
	}
	return out
}

func (r *reader) stat() api.Node {
	switch {
	case r.take("return"):
		if r.termBegins() && !r.next().Line {
			return node(syntax.Return, "", r.infix())
		}
		return node(syntax.Return, "", nothing())
	case r.take("break"):
		return node(syntax.Break, "")
	case r.take("continue"):
		return node(syntax.Continue, "")
	case r.take("error"):
		return node(syntax.Error, "")
	}
	return r.assign()
}

func (r *reader) termBegins() bool {
	switch r.next().Kind {
	case token.Ident, token.Int, token.Float, token.String:
		return true
	}
	return r.terms[r.fixed()]
}

func (r *reader) assign() api.Node {
	left := r.infix()
	if !r.stands("=") {
		return left
	}
	if !assignable(left) {
		r.fail(api.ErrForm)
	}
	r.at++
	return node(syntax.Assign, "", left, r.assign())
}

// assignable reports whether something may stand on the left of an assignment.
func assignable(n api.Node) bool {
	switch n.Kind {
	case syntax.Name, syntax.Decl, syntax.Dot, syntax.Call:
		return true
	case syntax.Tuple:
		for _, k := range n.Kids {
			if !assignable(k) {
				return false
			}
		}
		return true
	}
	return false
}

func (r *reader) infix() api.Node {
	n := r.term()
	if r.take("as") {
		n = node(syntax.As, "", n, r.typ())
		if r.operator() != "" || r.stands("as") {
			r.fail(ErrMix)
		}
		return n
	}
	first := r.operator()
	for op := first; op != ""; op = r.operator() {
		if op != first {
			r.fail(ErrMix)
		}
		r.at++
		n = node(syntax.Binary, op, n, r.term())
	}
	if first != "" && r.stands("as") {
		r.fail(ErrMix)
	}
	return n
}

// operator returns the operator at hand, or the empty text.
func (r *reader) operator() string {
	s := r.fixed()
	if !r.operators[s] || s == "-" && r.next().Line {
		return ""
	}
	return s
}

func (r *reader) term() api.Node {
	switch {
	case r.stands("not", "-"):
		s := r.fixed()
		r.at++
		return node(syntax.Unary, s, r.term())
	case r.take("consume"):
		return node(syntax.Consume, "", r.term())
	}
	return r.postfix()
}

func (r *reader) postfix() api.Node {
	n := r.atom()
	for {
		switch {
		case r.take("."):
			n = node(syntax.Dot, r.name(), n)
		case r.take("~"):
			n = node(syntax.Tilde, r.name(), n)
		case r.take(".>"):
			n = node(syntax.Chain, r.name(), n)
		case r.near("["):
			r.at++
			types := list(r, ",", r.typ)
			r.need("]")
			n = node(syntax.Qualify, "", append([]api.Node{n}, types...)...)
		case r.near("("):
			n = r.call(n)
		default:
			return n
		}
	}
}

func (r *reader) call(callee api.Node) api.Node {
	r.need("(")
	args := r.args()
	r.need(")")
	partial := word("")
	if r.near("?") {
		r.at++
		partial = word("?")
	}
	return node(syntax.Call, "", append([]api.Node{callee, partial}, args...)...)
}

func (r *reader) args() []api.Node {
	if r.stands(")") {
		return nil
	}
	var l []api.Node
	if !r.stands("where") {
		l = list(r, ",", r.assign)
	}
	if !r.take("where") {
		return l
	}
	named := list(r, ",", func() api.Node {
		name := r.name()
		r.need("=")
		return node(syntax.Named, name, r.infix())
	})
	return append(l, named...)
}
