package names

import (
	"strconv"

	"hackamore/api"
	"hackamore/parts"
	"hackamore/syntax"
)

// walker resolves one entity. Its scope is that of the method at hand.
type walker struct {
	*resolver
	module   *module
	params   []api.Node // the Bounds in scope
	inAlias  bool
	checking bool // types are checked, but not wanted
	locals   *scope
	counts   map[string]int // how many locals of a method have a name
}

// scope has the locals of a body, by their names in the text.
type scope struct {
	outer *scope
	names map[string]string
}

func newWalker(r *resolver, x *entity) *walker {
	return &walker{resolver: r, module: x.module, params: []api.Node{x.part.Kids[2]}, inAlias: x.kind == 0}
}

func (w *walker) fail(code api.Errno, p parts.Part) {
	w.module.fail(code, p)
}

// isParam reports whether a name is that of a type parameter in scope.
func (w *walker) isParam(name string) bool {
	for _, b := range w.params {
		if hasBound(b, name) {
			return true
		}
	}
	return false
}

// entity returns an entity with all that is in it, part by part.
func (w *walker) entity(x *entity) api.Entity {
	p := x.part
	e := api.Entity{Kind: x.kind, Name: x.name, Cap: x.cap, Bounds: w.bounds(p.Kid(2)), Provides: w.provides(p.Kid(3))}
	for _, k := range p.From(4) {
		if k.Kind == syntax.Field {
			e.Fields = append(e.Fields, api.Field{Name: k.Text, Let: k.Kids[0].Text == "let", Type: w.typ(k.Kid(1))})
			continue
		}
		method := w.method(x, k)
		e.Methods = append(e.Methods, method)
	}
	return e
}

func (w *walker) bounds(p parts.Part) []api.Bound {
	var l []api.Bound
	for _, k := range p.From(0) {
		typ := named("Any", api.CapAny)
		if !k.Kid(0).Nothing() {
			typ = w.constraint(k.Kid(0))
		}
		l = append(l, api.Bound{Name: k.Text, Type: typ})
	}
	return l
}

// provides returns the types of an intersection, or the one type that is there.
func (w *walker) provides(p parts.Part) []api.Type {
	if p.Nothing() {
		return nil
	}
	t := w.typ(p)
	if t.Kind == api.TypeBoth {
		return t.Args
	}
	return []api.Type{t}
}

func (w *walker) method(x *entity, p parts.Part) api.Method {
	m := api.Method{Name: p.Text, Partial: p.Kids[5].Text == "?"}
	m.Kind = methodKind(p.Kids[0].Text)
	m.Cap = methodCap(x, m.Kind, capOf(p.Kids[1].Text))
	own := w.params
	w.params = append(own[:1:1], p.Kids[2])
	w.locals, w.counts = &scope{names: map[string]string{}}, map[string]int{}
	m.Bounds = w.bounds(p.Kid(2))
	for _, k := range p.Kid(3).From(0) {
		m.Params = append(m.Params, api.Param{Name: k.Text, Type: w.typ(k.Kid(0))})
		w.declare(w.newName(k.Text), k.Text)
	}
	m.Result = w.result(x, m, p.Kid(4))
	if body := p.Kid(6); !body.Nothing() {
		m.Body = w.expr(body)
	}
	w.params = own
	return m
}

func methodKind(word string) int {
	switch word {
	case "new":
		return api.New
	case "be":
		return api.Be
	}
	return api.Fun
}

// methodCap returns the capability of a method for which one may be written.
func methodCap(x *entity, kind, written int) int {
	switch {
	case kind == api.Be:
		return api.Tag
	case written != api.CapNone:
		return written
	case kind == api.Fun:
		return api.Box
	}
	return defaultCap(x.kind)
}

// result returns the result of a method, which may be missing.
func (w *walker) result(x *entity, m api.Method, p parts.Part) api.Type {
	if !p.Nothing() {
		return w.typ(p)
	}
	if m.Kind != api.New {
		return none()
	}
	t := api.Type{Kind: api.TypeName, Name: x.name, Cap: m.Cap, Mark: api.Ephemeral}
	for _, b := range x.part.Kids[2].Kids {
		t.Args = append(t.Args, api.Type{Kind: api.TypeParam, Name: b.Text})
	}
	return t
}

// newName returns the name of a new local within its method.
func (w *walker) newName(name string) string {
	w.counts[name]++
	if n := w.counts[name]; n > 1 {
		return name + "." + strconv.Itoa(n)
	}
	return name
}

// declare takes a local that is in scope from here on.
func (w *walker) declare(unique, name string) {
	w.locals.names[name] = unique
}

// local returns the local that a lower name stands for.
func (w *walker) local(name string) (string, bool) {
	for s := w.locals; s != nil; s = s.outer {
		if unique, ok := s.names[name]; ok {
			return unique, !parts.IsUpper(name)
		}
	}
	return "", false
}

// within resolves something whose locals end with it.
func (w *walker) within(resolve func() api.Expr) api.Expr {
	outer := w.locals
	w.locals = &scope{outer, map[string]string{}}
	x := resolve()
	w.locals = outer
	return x
}
