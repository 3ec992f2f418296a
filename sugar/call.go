package sugar

import (
	"hackamore/api"
	"hackamore/parts"
	"hackamore/syntax"
)

// plan says what becomes of the arguments of a call: of a known method each one has a parameter.
type plan struct {
	method function
	known  bool
	places []int
}

func (w *work) call(p parts.Part) api.Node {
	f := p.Kid(0)
	switch f.Kind {
	case syntax.Chain:
		return seq(w.chain(p)...)
	case syntax.Tilde:
		return w.partial(p)
	}
	method, known := w.knownMethod(f)
	pl := planOf(p, method, known)
	callee := w.callee(f)
	return called(callee, p.Kids[1].Text, w.arguments(p, pl))
}

// knownMethod returns the known method that a callee names.
func (w *work) knownMethod(f parts.Part) (function, bool) {
	switch {
	case f.Kind == syntax.Dot:
		return w.knownOf(f.Kids[0], f.Text)
	case f.Kind != syntax.Name || w.scope.home.inDefault:
		return function{}, false
	case parts.IsUpper(f.Text):
		method, ok := w.known[f.Text]["create"]
		return method, ok
	}
	if meaning, _ := w.scope.find(f.Text); meaning != unknown {
		return function{}, false
	}
	method, ok := w.scope.home.methods[f.Text]
	return method, ok
}

// knownOf returns the known method with a name of a receiver.
func (w *work) knownOf(receiver api.Node, name string) (function, bool) {
	h := w.scope.home
	table := map[string]function{}
	switch {
	case h.inDefault:
	case parts.IsUpperName(receiver):
		table = w.known[receiver.Text]
	case receiver.Kind == syntax.This && !h.fields[name]:
		table = h.methods
	}
	method, ok := table[name]
	return method, ok
}

// planOf fails if the arguments of a known method do not fit, or those of another one have names.
func planOf(p parts.Part, method function, known bool) plan {
	if !known {
		refuseNames(p)
		return plan{}
	}
	pl := plan{method: method, known: true, places: placesOf(p, method)}
	given := pl.given()
	for i, q := range method.params {
		if !given[i] && q.Kid(1).Nothing() {
			fail(ErrArgs, p)
		}
	}
	return pl
}

func refuseNames(p parts.Part) {
	for _, k := range p.Kids[2:] {
		if k.Kind == syntax.Named {
			fail(ErrArgs, p)
		}
	}
}

// placesOf returns the parameter of each argument of a call, and fails if one has none, or two have the same.
func placesOf(p parts.Part, method function) []int {
	var l []int
	taken := map[int]bool{}
	for i, k := range p.Kids[2:] {
		at := i
		if k.Kind == syntax.Named {
			at = method.param(k.Text)
		}
		if at < 0 || at >= len(method.params) || taken[at] {
			fail(ErrArgs, p)
		}
		taken[at] = true
		l = append(l, at)
	}
	return l
}

// given returns the parameters that have an argument.
func (pl plan) given() map[int]bool {
	set := map[int]bool{}
	for _, at := range pl.places {
		set[at] = true
	}
	return set
}

// arguments rewrites the arguments of a call as they stand there, and then the default values of those that are missing.
func (w *work) arguments(p parts.Part, pl plan) []api.Node {
	var l []api.Node
	for _, k := range p.From(2) {
		l = append(l, w.argument(k))
	}
	if !pl.known {
		return l
	}
	out := make([]api.Node, len(pl.method.params))
	for i, at := range pl.places {
		out[at] = l[i]
	}
	given := pl.given()
	for i, q := range pl.method.params {
		if !given[i] {
			out[i] = w.defaultValue(q.Kid(1))
		}
	}
	return out
}

// argument rewrites an argument, with a name or without one.
func (w *work) argument(p parts.Part) api.Node {
	if p.Kind == syntax.Named {
		return w.expr(p.Kid(0))
	}
	return w.expr(p)
}

// defaultValue rewrites a default value where it is used: it sees no locals and no fields, and knows no methods.
func (w *work) defaultValue(p parts.Part) api.Node {
	h := w.scope.home
	blank := &home{name: h.name, bounds: h.bounds, inDefault: true}
	return w.again(p, newScope(blank, w.scope.bounds))
}

// callee makes a Dot, or a Qualify of one, of what is called.
func (w *work) callee(f parts.Part) api.Node {
	switch {
	case f.Kind == syntax.Dot:
		return w.expr(f)
	case f.Kind == syntax.Qualify:
		return w.qualifiedCallee(f)
	case parts.IsUpperName(f.Node):
		return dot(f.Node, "create")
	case f.Kind == syntax.Name:
		if meaning, _ := w.scope.find(f.Text); meaning == unknown {
			return field(f.Text)
		}
	}
	return dot(w.expr(f), "apply")
}

func (w *work) qualifiedCallee(f parts.Part) api.Node {
	q := w.qualify(f)
	switch {
	case parts.IsUpperName(f.Kids[0]):
		return dot(q, "create")
	case f.Kids[0].Kind == syntax.Dot:
		return q
	case f.Kids[0].Kind == syntax.Name:
		if meaning, _ := w.scope.find(f.Kids[0].Text); meaning == unknown {
			return q
		}
	}
	return dot(q, "apply")
}

// isChained reports whether a Call is one of a Chain.
func isChained(n api.Node) bool {
	return n.Kind == syntax.Call && n.Kids[0].Kind == syntax.Chain
}

// chain returns the parts that a Call of a Chain becomes; the last one is the receiver.
func (w *work) chain(p parts.Part) []api.Node {
	f := p.Kid(0)
	receiver := f.Kid(0)
	var l []api.Node
	if isChained(receiver.Node) {
		l = w.chain(receiver)
	}
	root := receiver.Node
	for isChained(root) {
		root = root.Kids[0].Kids[0]
	}
	method, known := function{}, false
	if root.Kind == syntax.This {
		method, known = w.knownOf(root, f.Text)
	}
	pl := planOf(p, method, known)
	if len(l) == 0 {
		if !w.canChain(root) {
			fail(ErrChain, f)
		}
		l = []api.Node{w.expr(receiver)}
	}
	last := l[len(l)-1]
	next := called(dot(last, f.Text), p.Kids[1].Text, w.arguments(p, pl))
	return append(l[:len(l)-1], next, last)
}

// canChain reports whether a receiver may stand twice: a local or this.
func (w *work) canChain(n api.Node) bool {
	if n.Kind != syntax.Name || parts.IsUpper(n.Text) {
		return n.Kind == syntax.This
	}
	meaning, _ := w.scope.find(n.Text)
	return meaning == isLocal
}

// partial makes a lambda of the partial application of a known method.
func (w *work) partial(p parts.Part) api.Node {
	f := p.Kid(0)
	receiver := f.Kids[0]
	method, known := w.knownOf(receiver, f.Text)
	if !known || method.kind == "new" {
		refuseNames(p)
		fail(ErrChain, f)
	}
	places := placesOf(p, method)
	var captures []capture
	if receiver.Kind == syntax.This {
		receiver = name("_this")
		captures = append(captures, capture{"_this", w.receiverType(method), p.As(this())})
	}
	given := make([]string, len(method.params))
	for i, k := range p.From(2) {
		if k.Kind == syntax.Named {
			k = k.Kid(0)
		}
		at := places[i]
		given[at] = w.newLocal()
		captures = append(captures, capture{given[at], method.params[at].Kids[0], k})
	}
	apply := function{result: method.result, partial: method.partial}
	var args []api.Node
	for i, q := range method.params {
		s := given[i]
		if s == "" {
			s = q.Text
			plain := node(syntax.Param, q.Text, q.Kids[0], nothing())
			apply.params = append(apply.params, q.As(plain))
		}
		args = append(args, name(s))
	}
	apply.body = p.As(call(receiver, f.Text, args...))
	return w.literal(functionLiteral("", apply, captures))
}

// receiverType returns the type of the entity at hand with the capability of a method.
func (w *work) receiverType(method function) api.Node {
	h := w.scope.home
	capability := method.capability
	switch {
	case method.kind == "be":
		capability = "tag"
	case capability == "":
		capability = "box"
	}
	return named(h.name, capability, "", arguments(h.bounds))
}
