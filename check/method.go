package check

import (
	"hackamore/api"
	"hackamore/exprs"
	"hackamore/flow"
	"hackamore/types"
)

// grown returns a list with one more element, in new memory.
func grown[T any](l []T, x T) []T { return append(l[:len(l):len(l)], x) }

// consumed returns the names of the local variables that a body consumes.
func consumed(body api.Expr) map[string]bool {
	names := map[string]bool{}
	for _, x := range exprs.Walk(body) {
		if x.Op == api.OpConsume {
			names[x.Text] = true
		}
	}
	return names
}

// begin returns the context at the beginning of a method, which is there.
func begin(x api.Entity, entity, method int) (Context, api.Errno) {
	c := Context{Entity: entity, Method: method}
	m := x.Methods[method]
	gone := consumed(m.Body)
	for _, p := range m.Params {
		t, e := types.Self(p.Type, receiver(x, m), api.Plain)
		if e != api.OK {
			return Context{}, e
		}
		c.Locals = append(c.Locals, Local{Name: p.Name, Param: true, Always: !gone[p.Name], Type: t})
	}
	return c, api.OK
}

// fault is what a method is left with.
type fault struct {
	path []int
	code api.Errno
}

// method returns the types of the expressions of a method.
func (g *program) method(entity, method int) (b Body, f Fault, e api.Errno) {
	if !g.has(entity, method) {
		return Body{}, Fault{}, api.ErrRange
	}
	defer func() {
		x := recover()
		if x == nil {
			return
		}
		left, ok := x.(fault)
		if !ok {
			panic(x)
		}
		b, f, e = Body{}, Fault{entity, method, left.path}, left.code
	}()
	return Body{entity, method, g.body(entity, method)}, Fault{}, api.OK
}

// body returns the types of the expressions of a method; it panics with a fault.
func (g *program) body(entity, method int) []api.Type {
	x := g.list[entity]
	m := x.Methods[method]
	c, e := begin(x, entity, method)
	if e != api.OK {
		panic(fault{nil, e})
	}
	if isNone(m.Body) {
		return nil
	}
	if path, e := Shape(m.Body); e != api.OK {
		panic(fault{path, e})
	}
	w := &walker{program: g, gone: consumed(m.Body)}
	t, _ := w.expr(nil, c, m.Body)
	if m.Kind == api.Fun && !isNothing(m.Result) {
		want, e := types.Self(m.Result, receiver(x, m), api.Plain)
		if e != api.OK || !g.fits(t, want) {
			panic(fault{nil, ErrResult})
		}
	}
	r, e := flow.Check(x, method, w.partial)
	switch {
	case e != api.OK:
		panic(fault{nil, e})
	case len(r.Faults) > 0:
		panic(fault{r.Faults[0].Path, r.Faults[0].Code})
	}
	return w.types
}

// walker goes through a body.
type walker struct {
	*program
	gone    map[string]bool // names of local variables that are consumed
	regions int
	types   []api.Type
	partial [][]int // paths of calls that may end with an error
}

// expr goes through an expression, and returns its type, and the local variables that are declared behind it.
func (w *walker) expr(path []int, c Context, x api.Expr) (api.Type, []Local) {
	place := len(w.types)
	w.types = append(w.types, api.Type{})
	if isNone(x) {
		return api.Type{}, c.Locals
	}
	kids, locals := w.kids(path, c, x)
	t, e := w.rule(c, x, kids)
	if e != api.OK {
		panic(fault{path, e})
	}
	if w.raises(x, kids) {
		w.partial = append(w.partial, path)
	}
	w.types[place] = t
	return t, locals
}

// kids goes through the Kids of an expression, and returns their types, and the local variables that are declared behind it.
func (w *walker) kids(path []int, c Context, x api.Expr) ([]api.Type, []Local) {
	if x.Op == api.OpRecover {
		w.regions++
		c.Regions = grown(c.Regions, w.regions)
	}
	binds := x.Op == api.OpCase && x.Text != ""
	bound := len(c.Locals)
	if binds {
		c.Locals = grown(c.Locals, w.fresh(c, x, true))
	}
	var l []api.Type
	for i, k := range x.Kids {
		if binds && i == 1 {
			c.Locals[bound].Type = x.Types[0]
		}
		var t api.Type
		t, c.Locals = w.expr(grown(path, i), c, k)
		l = append(l, t)
	}
	if x.Op == api.OpVar || x.Op == api.OpLet {
		c.Locals = grown(c.Locals, w.fresh(c, x, len(x.Kids) > 0))
	}
	return l, c.Locals
}

// fresh returns the local variable that an expression declares. What a case binds may be looked at again ahead of its body.
func (w *walker) fresh(c Context, x api.Expr, valued bool) Local {
	l := Local{Name: x.Text, Always: valued && !w.gone[x.Text], Type: x.Types[0], Region: c.innermost()}
	if x.Op == api.OpCase {
		l.Param = true
		l.Type, _ = held(l.Type)
	}
	return l
}
