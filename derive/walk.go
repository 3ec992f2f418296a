package derive

import (
	"hackamore/api"
	"hackamore/check"
	"hackamore/exprs"
	"hackamore/flow"
	"hackamore/subtype"
	"hackamore/types"
)

// walk goes through a body in the contexts of layer 13, up to the first error.
type walk struct {
	next    func() api.Type // hands out the claimed types, in the order of the walk
	follows func(c check.Context, x api.Expr, kids []api.Type, claimed api.Type) api.Errno
	gone    map[string]bool // names of local variables that are consumed
	regions int
	calls   []call
	path    []int
	e       api.Errno
}

// call is a call, or a construction, with the claimed types of its Kids.
type call struct {
	path []int
	x    api.Expr
	kids []api.Type
}

// fail keeps an error and its path, if it is the first one.
func (w *walk) fail(path []int, e api.Errno) {
	if w.e == api.OK {
		w.path, w.e = path, e
	}
}

// expr goes through an expression, and returns its claimed type, and the local variables that are declared behind it.
func (w *walk) expr(path []int, c check.Context, x api.Expr) (api.Type, []check.Local) {
	claimed := w.next()
	if x.Op == 0 {
		if !isZero(claimed) {
			w.fail(path, ErrClaim)
		}
		return claimed, c.Locals
	}
	kids, locals := w.kids(path, c, x)
	if w.e == api.OK {
		w.fail(path, w.follows(c, x, kids, claimed))
	}
	if x.Op == api.OpCall || x.Op == api.OpNew {
		w.calls = append(w.calls, call{path, x, kids})
	}
	return claimed, locals
}

// kids goes through the Kids of an expression, and returns their claimed types, and the local variables behind it.
func (w *walk) kids(path []int, c check.Context, x api.Expr) ([]api.Type, []check.Local) {
	if x.Op == api.OpRecover {
		w.regions++
		c.Regions = append(c.Regions[:len(c.Regions):len(c.Regions)], w.regions)
	}
	bound := len(c.Locals)
	binds := x.Op == api.OpCase && x.Text != ""
	if binds {
		c.Locals = w.declare(c, x)
		c.Locals[bound].Type = looked(x.Types[0])
	}
	var l []api.Type
	for i, k := range x.Kids {
		if binds && i == 1 {
			c.Locals[bound].Type = x.Types[0]
		}
		var t api.Type
		t, c.Locals = w.expr(append(path[:len(path):len(path)], i), c, k)
		l = append(l, t)
	}
	if x.Op == api.OpVar || x.Op == api.OpLet {
		c.Locals = w.declare(c, x)
	}
	return l, c.Locals
}

// declare returns the local variables of a context with the one that an expression declares, in new memory.
func (w *walk) declare(c check.Context, x api.Expr) []check.Local {
	l := check.Local{Name: x.Text, Param: x.Op == api.OpCase, Always: len(x.Kids) > 0 && !w.gone[x.Text], Type: x.Types[0]}
	if n := len(c.Regions); n > 0 {
		l.Region = c.Regions[n-1]
	}
	return append(c.Locals[:len(c.Locals):len(c.Locals)], l)
}

// looked returns the type of what a case binds in its guard, behind which it may be looked at again.
func looked(t api.Type) api.Type {
	t, _ = types.Aliased(t)
	t, _ = types.Aliased(t)
	return t
}

// proof asks of the types of one method whether they follow from each other.
type proof struct {
	walk
	p []api.Entity
	b check.Body
}

// newProof returns the proof of a body with as many types as it has nodes.
func newProof(p []api.Entity, b check.Body) *proof {
	d := &proof{p: p, b: b}
	n := 0
	d.next = func() api.Type {
		n++
		return b.Types[n-1]
	}
	d.gone = map[string]bool{}
	for _, x := range exprs.Walk(d.method().Body) {
		if x.Op == api.OpConsume {
			d.gone[x.Text] = true
		}
	}
	d.follows = d.claim
	return d
}

func (d *proof) method() api.Method { return d.p[d.b.Entity].Methods[d.b.Method] }

// claim returns the error of a claimed type that does not follow from those of the Kids.
func (d *proof) claim(c check.Context, x api.Expr, kids []api.Type, claimed api.Type) api.Errno {
	t, e := check.Rule(d.p, c, x, kids)
	switch {
	case e != api.OK:
		return e
	case isZero(t):
		return api.OK
	case isZero(claimed) || !types.Equal(t, claimed) && !subtype.Is(d.p, t, claimed):
		return ErrClaim
	}
	return api.OK
}

// returns reports whether the claimed type of the body fits the result of the method.
func (d *proof) returns(whole api.Type) bool {
	m := d.method()
	if m.Kind != api.Fun || isZero(m.Result) || types.Equal(m.Result, types.Named("None", api.Val, nil)) {
		return true
	}
	want, e := types.Self(m.Result, m.Cap, api.Plain)
	return e == api.OK && (isZero(whole) || subtype.Is(d.p, whole, want))
}

// flow returns the first fault of the flow of the method, and its path.
func (d *proof) flow() ([]int, api.Errno) {
	var partial [][]int
	for _, x := range d.calls {
		if d.raises(x) {
			partial = append(partial, x.path)
		}
	}
	r, e := flow.Check(d.p[d.b.Entity], d.b.Method, partial)
	if e != api.OK || len(r.Faults) == 0 {
		return nil, e
	}
	return r.Faults[0].Path, r.Faults[0].Code
}

// raises reports whether the method of a call, or of a construction, for which the rule holds, is partial.
func (d *proof) raises(x call) bool {
	if x.x.Op == api.OpCall {
		m, _ := subtype.Lookup(d.p, x.kids[0], x.x.Text)
		return m.Partial
	}
	i, _ := subtype.Find(d.p, x.x.Types[0].Name)
	for _, m := range d.p[i].Methods {
		if m.Name == x.x.Text {
			return m.Partial
		}
	}
	return false
}
