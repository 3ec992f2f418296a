package draw

import (
	"slices"
	"strconv"

	"hackamore/api"
	"hackamore/check"
	"hackamore/flow"
	"hackamore/notation"
	"hackamore/types"
)

// name returns a name for a local variable that has none yet.
func (d *core) name() string {
	d.names++
	return "l" + strconv.Itoa(d.names)
}

// step returns an expression whose value nobody wants.
func (d *core) step(depth int) api.Expr {
	switch d.Below(16) {
	case 0, 1, 2, 3:
		t := d.typ(2)
		x := typed(One(d.Maker, api.OpVar, api.OpLet), d.name(), t, d.value(t, depth))
		d.locals = append(d.locals, check.Local{Name: x.Text, Type: t})
		return x
	case 4, 14, 15:
		if len(d.locals) > 0 {
			l := One(d.Maker, d.locals...)
			return of(api.OpAssign, l.Name, d.value(l.Type, depth))
		}
	case 5, 6:
		return d.written(depth)
	case 7, 8:
		return d.sending(depth)
	case 9:
		x := of(api.OpWhile, "", d.value(boolean, depth-1), d.step(depth-1), api.Expr{})
		if d.Below(2) == 0 {
			x.Kids[1] = of(api.OpSeq, "", x.Kids[1], of(api.OpIf, "", d.value(boolean, depth-1), of(One(d.Maker, api.OpBreak, api.OpContinue), ""), api.Expr{}))
		}
		return x
	case 10:
		return of(api.OpIf, "", d.value(boolean, depth), d.step(depth-1), api.Expr{})
	case 11:
		if depth > 1 {
			return d.try(func() api.Expr { return d.step(depth - 1) }, depth)
		}
	case 12:
		back := of(api.OpReturn, "")
		if d.made.Kind == api.Fun {
			back.Kids = []api.Expr{d.value(d.made.Result, depth-1)}
		}
		return of(api.OpIf, "", d.value(boolean, depth), back, api.Expr{})
	case 13:
		if d.made.Partial || d.tries > 0 {
			return of(api.OpIf, "", d.value(boolean, depth), of(api.OpError, ""), api.Expr{})
		}
	}
	return d.value(d.typ(2), depth-1)
}

// written returns an OpSet of some field.
func (d *core) written(depth int) api.Expr {
	for range 12 {
		e := One(d.Maker, d.p...)
		if len(e.Fields) == 0 || check.Builtin(e.Name) {
			continue
		}
		f := One(d.Maker, e.Fields...)
		origin := One(d.Maker, of(api.OpThis, ""), of(api.OpThis, ""), d.leaf(types.Named(e.Name, api.Ref, nil)))
		return of(api.OpSet, f.Name, origin, d.value(f.Type, depth-1))
	}
	return nothing()
}

// sending returns a call of a behaviour of some actor.
func (d *core) sending(depth int) api.Expr {
	e := d.p[len(d.p)-1-d.Below(len(d.actors))]
	for _, m := range e.Methods {
		if m.Kind != api.Be || d.Below(2) == 0 {
			continue
		}
		of := d.leaf(types.Named(e.Name, api.Tag, nil))
		if e.Name == "main.Main" {
			of = api.Expr{Op: api.OpThis}
		}
		x := api.Expr{Op: api.OpCall, Text: m.Name, Kids: []api.Expr{of}}
		for _, p := range m.Params {
			x.Kids = append(x.Kids, d.value(p.Type, depth-1))
		}
		return x
	}
	return nothing()
}

// body gives a method a body that layer 13 takes.
func (d *core) body(i, j int) {
	m := &d.p[i].Methods[j]
	if m.Body.Op != 0 || d.p[i].Kind != api.Class && d.p[i].Kind != api.Actor {
		return
	}
	d.made, d.locals, d.names, d.tries = *m, nil, 0, 0
	for _, p := range m.Params {
		d.locals = append(d.locals, check.Local{Name: p.Name, Type: p.Type, Param: true})
	}
	c := m.Cap
	if m.Kind != api.Fun {
		c = api.Ref
	}
	d.this, _ = types.Aliased(types.Named(d.p[i].Name, c, nil))
	m.Body = d.least(i, j)
	ahead := len(m.Body.Kids) - 1
	for range d.Below(4) {
		m.Body.Kids = slices.Insert(m.Body.Kids, ahead, d.step(3))
		ahead++
	}
	m.Body.Kids[ahead] = d.value(m.Result, 3)
	d.settle(i, j)
}

// least returns the least body of a method.
func (d *core) least(i, j int) api.Expr {
	m := d.p[i].Methods[j]
	x := of(api.OpSeq, "")
	if m.Kind == api.New {
		for _, f := range d.p[i].Fields {
			x.Kids = append(x.Kids, of(api.OpSet, f.Name, of(api.OpThis, ""), d.first(f.Type)))
		}
	}
	if m.Partial {
		x.Kids = append(x.Kids, notation.Expr("(if lit.false{Bool val} error -)"))
	}
	x.Kids = append(x.Kids, d.plain(m.Result))
	return x
}

// first returns what a field has at first: None, where that fits, so that objects do not make each other without end.
func (d *core) first(t api.Type) api.Expr {
	if d.fits(notation.Type("None val"), t) {
		return nothing()
	}
	return d.plain(t)
}

// settle takes away what layer 13 does not take in a body.
func (d *core) settle(i, j int) {
	m := &d.p[i].Methods[j]
	for {
		_, f, e := check.Method(d.p, i, j)
		if e == api.OK {
			return
		}
		switch {
		case len(f.Path) == 0 && e == check.ErrResult:
			m.Body.Kids[len(m.Body.Kids)-1] = d.plain(m.Result)
		case len(f.Path) == 0:
			m.Body = d.least(i, j)
		case e == flow.ErrDead:
			last := len(f.Path) - 1
			m.Body = replaced(m.Body, f.Path[:last], func(x api.Expr) api.Expr {
				x.Kids = x.Kids[:f.Path[last]]
				return x
			})
		default:
			m.Body = replaced(m.Body, f.Path, func(x api.Expr) api.Expr {
				if x.Op == api.OpCase {
					return api.Expr{Op: x.Op, Text: x.Text, Types: x.Types, Kids: []api.Expr{{}, x.Kids[1]}}
				}
				return nothing()
			})
		}
	}
}

// replaced returns an expression in which the part at a path is another one.
func replaced(x api.Expr, path []int, by func(x api.Expr) api.Expr) api.Expr {
	if len(path) == 0 {
		return by(x)
	}
	x.Kids = slices.Clone(x.Kids)
	x.Kids[path[0]] = replaced(x.Kids[path[0]], path[1:], by)
	return x
}
