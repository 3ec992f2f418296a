package sugar

import (
	"strconv"

	"hackamore/api"
	"hackamore/parts"
	"hackamore/syntax"
)

func (w *work) assign(p parts.Part) api.Node {
	left := p.Kid(0)
	switch left.Kind {
	case syntax.Call:
		return w.update(p, left)
	case syntax.Tuple:
		return w.take(p, left)
	case syntax.Decl:
		kept := node(syntax.Decl, left.Text, left.Kids[0], w.typ(left.Kids[1]))
		value := w.expr(p.Kid(1))
		w.scope.declare(left.Text, left.Kids[1])
		return assign(kept, value)
	}
	target := w.expr(left)
	return assign(target, w.expr(p.Kid(1)))
}

// update makes a call of an assignment to a call. A `?` behind that call is not one of the update.
func (w *work) update(p, left parts.Part) api.Node {
	f := left.Kid(0)
	if _, known := w.knownMethod(f); known {
		fail(ErrAssign, p)
	}
	target := w.expr(f)
	var args []api.Node
	for _, k := range left.From(2) {
		if k.Kind == syntax.Named {
			fail(ErrArgs, k)
		}
		args = append(args, w.expr(k))
	}
	value := w.expr(p.Kid(1))
	return call(target, "update", append(args, value)...)
}

// declares reports whether all parts of a Tuple are Decls, or such Tuples.
func declares(n api.Node) bool {
	for _, k := range n.Kids {
		if k.Kind != syntax.Decl && (k.Kind != syntax.Tuple || !declares(k)) {
			return false
		}
	}
	return true
}

// take makes declarations of an assignment to a Tuple of them.
func (w *work) take(p, left parts.Part) api.Node {
	if !declares(left.Node) {
		fail(ErrAssign, p)
	}
	k := w.newLocal()
	kept := let(k, w.tupleType(left.Node))
	l := w.taken(left.Node, k)
	value := w.expr(p.Kid(1))
	w.declareAll(left.Node)
	l = append([]api.Node{assign(kept, value)}, l...)
	return seq(append(l, name(k))...)
}

// tupleType returns the type of a Tuple of declarations.
func (w *work) tupleType(n api.Node) api.Node {
	if n.Kind == syntax.Decl {
		return w.typ(n.Kids[1])
	}
	out := node(syntax.TupleType, "")
	for _, k := range n.Kids {
		out.Kids = append(out.Kids, w.tupleType(k))
	}
	return out
}

// taken returns the assignments to the parts of a Tuple from the elements of a local.
func (w *work) taken(n api.Node, local string) []api.Node {
	var l []api.Node
	for i, k := range n.Kids {
		element := dot(name(local), "_"+strconv.Itoa(i+1))
		if k.Kind == syntax.Decl {
			l = append(l, assign(node(syntax.Decl, k.Text, k.Kids[0], w.typ(k.Kids[1])), element))
			continue
		}
		inner := w.newLocal()
		l = append(l, assign(let(inner, w.tupleType(k)), element))
		l = append(l, w.taken(k, inner)...)
		l = append(l, name(inner))
	}
	return l
}

func (w *work) declareAll(n api.Node) {
	for _, k := range n.Kids {
		if k.Kind == syntax.Decl {
			w.scope.declare(k.Text, k.Kids[1])
		} else {
			w.declareAll(k)
		}
	}
}

// match rewrites cases; what is declared in the operand is in scope in them.
func (w *work) match(p parts.Part) api.Node {
	return w.in(w.scope.inner(), func() api.Node {
		n := node(syntax.Match, "", w.expr(p.Kid(0)))
		n.Kids = append(n.Kids, w.scoped(p.Kid(1)))
		for _, k := range p.From(2) {
			one := w.in(w.scope.inner(), func() api.Node { return w.oneCase(k) })
			n.Kids = append(n.Kids, one)
		}
		return n
	})
}

func (w *work) oneCase(p parts.Part) api.Node {
	pattern := p.Kid(0)
	switch {
	case pattern.Kind == syntax.Decl:
		return w.matched(p, w.decl(pattern))
	case pattern.Kind == syntax.Tuple && declares(pattern.Node):
		return w.tupleCase(p)
	case parts.IsUpperName(pattern.Node):
		return w.matched(p, let(w.newLocal(), named(pattern.Text, "", "", nil)))
	case pattern.Kind == syntax.Qualify && parts.IsUpperName(pattern.Kids[0]):
		k := w.newLocal()
		return w.matched(p, let(k, named(pattern.Kids[0].Text, "", "", w.types(pattern.Kids[1:]))))
	}
	fail(ErrPattern, pattern)
	return api.Node{}
}

// matched returns a case with a plain pattern.
func (w *work) matched(p parts.Part, pattern api.Node) api.Node {
	guard := w.expr(p.Kid(1))
	return node(syntax.Case, "", pattern, guard, w.expr(p.Kid(2)))
}

// tupleCase takes the elements apart both ahead of the guard, if there is one, and ahead of the body.
func (w *work) tupleCase(p parts.Part) api.Node {
	tuple := p.Kid(0).Node
	k := w.newLocal()
	pattern := let(k, w.tupleType(tuple))
	behind := func(e parts.Part) api.Node {
		l := w.taken(tuple, k)
		w.declareAll(tuple)
		return seq(append(l, w.expr(e))...)
	}
	guard := nothing()
	if !p.Kid(1).Nothing() {
		guard = behind(p.Kid(1))
	}
	return node(syntax.Case, "", pattern, guard, behind(p.Kid(2)))
}
