package draw

import (
	"strconv"

	"hackamore/api"
	"hackamore/check"
	"hackamore/notation"
	"hackamore/subtype"
	"hackamore/types"
)

// of returns an expression.
func of(op int, text string, kids ...api.Expr) api.Expr {
	return api.Expr{Op: op, Text: text, Kids: kids}
}

// typed returns an expression with a type.
func typed(op int, text string, t api.Type, kids ...api.Expr) api.Expr {
	return api.Expr{Op: op, Text: text, Types: []api.Type{t}, Kids: kids}
}

// nothing is the unit None.
func nothing() api.Expr { return notation.Expr("unit{None val}") }

// plain returns an expression without locals whose value fits a type.
func (d *core) plain(t api.Type) api.Expr {
	switch t.Kind {
	case api.TypeUnion:
		return d.plain(t.Args[d.Below(len(t.Args))])
	case api.TypeTuple:
		x := of(api.OpTuple, "")
		for _, a := range t.Args {
			x.Kids = append(x.Kids, d.plain(a))
		}
		return x
	case 0:
		return nothing()
	}
	switch t.Name {
	case "U32", "USize":
		return typed(api.OpLit, strconv.Itoa(d.Below(9)), t)
	case "Bool":
		return typed(api.OpLit, One(d.Maker, "true", "false"), t)
	case "String":
		return typed(api.OpLit, "s"+strconv.Itoa(d.Below(9)), t)
	case "None", "main.P", "AmbientAuth":
		return typed(api.OpUnit, "", t)
	case "main.A0", "main.T":
		return notation.Expr("(new.create{main.A0 tag})")
	case "main.I":
		return notation.Expr("unit{main.P val}")
	case "Any":
		return One(d.Maker, nothing(), notation.Expr("lit.5{U32 val}"))
	}
	name := One(d.Maker, "make", "make", "create", "keep")
	made := typed(api.OpNew, name, types.Named(t.Name, api.Ref, nil))
	switch {
	case name == "keep" && t.Cap != api.Iso:
		made.Kids = []api.Expr{notation.Expr("lit.1{U32 val}"), notation.Expr("unit{main.P val}")}
	case name == "create" && (t.Cap == api.Ref || t.Cap == api.Box || t.Cap == api.Tag):
	default:
		made.Text = "make"
	}
	return made
}

// value returns an expression of at most a depth whose value should fit a type.
func (d *core) value(t api.Type, depth int) api.Expr {
	if depth <= 1 || t.Kind == 0 {
		return d.leaf(t)
	}
	switch d.Below(16) {
	case 0, 1:
		return of(api.OpIf, "", d.value(boolean, depth-1), d.value(t, depth-1), d.value(t, depth-1))
	case 2, 3:
		x := of(api.OpSeq, "")
		for range 1 + d.Below(3) {
			x.Kids = append(x.Kids, d.step(depth-1))
		}
		x.Kids = append(x.Kids, d.value(t, depth-1))
		return x
	case 4:
		return d.try(func() api.Expr { return d.value(t, depth-1) }, depth)
	case 5, 6:
		return d.match(t, depth)
	case 7:
		return d.recovered(t, depth)
	case 8:
		if t.Kind == api.TypeTuple {
			x := of(api.OpTuple, "")
			for _, a := range t.Args {
				x.Kids = append(x.Kids, d.value(a, depth-1))
			}
			return x
		}
		pair := api.Type{Kind: api.TypeTuple, Args: []api.Type{t, boolean}}
		return of(api.OpItem, "0", d.value(pair, depth-1))
	case 9, 10, 11:
		if x, ok := d.called(t, depth); ok {
			return x
		}
	case 12, 13, 14:
		if x, ok := d.gotten(t); ok {
			return x
		}
	}
	if types.Equal(t, boolean) && d.Below(2) == 0 {
		return of(api.OpIs, "", d.leaf(d.typ(2)), d.leaf(d.typ(2)))
	}
	return d.leaf(t)
}

// boolean is the type of Bools.
var boolean = api.Type{Kind: api.TypeName, Name: "Bool", Cap: api.Val}

// leaf returns a local whose value fits a type, or an expression without locals.
func (d *core) leaf(t api.Type) api.Expr {
	if d.Below(2) == 0 && d.fits(d.this, t) {
		return of(api.OpThis, "")
	}
	for range 4 {
		if len(d.locals) == 0 {
			break
		}
		l := One(d.Maker, d.locals...)
		aliased, _ := types.Aliased(l.Type)
		aliased, _ = types.Aliased(aliased)
		if d.fits(aliased, t) {
			return of(api.OpLocal, l.Name)
		}
		if given, _ := types.Consumed(l.Type); d.fits(given, t) {
			return of(api.OpConsume, l.Name)
		}
	}
	return d.plain(t)
}

// try returns an OpTry of an expression; errors are drawn in it.
func (d *core) try(inner func() api.Expr, depth int) api.Expr {
	d.tries++
	first := inner()
	if d.Below(2) == 0 {
		first = of(api.OpSeq, "", of(api.OpIf, "", d.value(boolean, depth-1), of(api.OpError, ""), api.Expr{}), first)
	}
	d.tries--
	second, third := inner(), api.Expr{}
	if d.Below(3) == 0 {
		third = d.step(depth - 1)
	}
	return of(api.OpTry, "", first, second, third)
}

// match returns an OpMatch of a union, or another type, whose cases have values that should fit a type.
func (d *core) match(t api.Type, depth int) api.Expr {
	operand := d.typ(2)
	x := of(api.OpMatch, "", d.value(operand, depth-1))
	claims := []api.Type{operand}
	if operand.Kind == api.TypeUnion {
		claims = operand.Args
	}
	for _, c := range claims {
		k := typed(api.OpCase, "", c, api.Expr{}, api.Expr{})
		ahead := len(d.locals)
		if d.Below(4) > 0 {
			k.Text = d.name()
			d.locals = append(d.locals, check.Local{Name: k.Text, Type: c, Param: true})
		}
		if d.Below(4) == 0 {
			k.Kids[0] = d.value(boolean, depth-1)
		}
		k.Kids[1] = d.value(t, depth-1)
		d.locals = d.locals[:ahead]
		x.Kids = append(x.Kids, k)
	}
	if d.Below(2) == 0 {
		x.Kids = append(x.Kids, typed(api.OpCase, "", notation.Type("Any tag"), api.Expr{}, d.value(t, depth-1)))
	}
	return x
}

// recovered returns an OpRecover whose value should fit a type.
func (d *core) recovered(t api.Type, depth int) api.Expr {
	c := t.Cap
	inner := t
	if t.Kind == api.TypeName && (c == api.Iso || c == api.Trn || c == api.Val && len(d.classes) > 0) {
		inner.Cap = api.Ref
	}
	if t.Kind != api.TypeName {
		c = api.CapNone
	}
	own := d.locals
	if d.Below(4) > 0 {
		d.locals = nil
		for _, l := range own {
			if types.Sendable(l.Type) {
				d.locals = append(d.locals, l)
			}
		}
	}
	x := typed(api.OpRecover, "", api.Type{Kind: api.TypeSelf, Cap: c}, d.value(inner, depth-1))
	d.locals = own
	return x
}

// called returns a call of some method whose result fits a type.
func (d *core) called(t api.Type, depth int) (api.Expr, bool) {
	for range 12 {
		e := One(d.Maker, d.p...)
		if len(e.Methods) == 0 {
			continue
		}
		m := One(d.Maker, e.Methods...)
		if m.Kind != api.Fun || m.Partial && d.tries == 0 && !d.made.Partial || !d.fits(m.Result, t) {
			continue
		}
		of := types.Named(e.Name, m.Cap, nil)
		x := api.Expr{Op: api.OpCall, Text: m.Name, Kids: []api.Expr{d.value(of, depth-1)}}
		for _, p := range m.Params {
			x.Kids = append(x.Kids, d.value(p.Type, depth-1))
		}
		return x, true
	}
	return api.Expr{}, false
}

// gotten returns a field of a local or the receiver that fits a type.
func (d *core) gotten(t api.Type) (api.Expr, bool) {
	for range 12 {
		x, of := api.Expr{Op: api.OpThis}, d.this
		if len(d.locals) > 0 && d.Below(2) == 0 {
			l := One(d.Maker, d.locals...)
			x, of = api.Expr{Op: api.OpLocal, Text: l.Name}, l.Type
		}
		i, e := subtype.Find(d.p, of.Name)
		if e != api.OK || len(d.p[i].Fields) == 0 {
			continue
		}
		f := One(d.Maker, d.p[i].Fields...)
		if seen, e := types.Seen(of.Cap, f.Type); e == api.OK && d.fits(seen, t) {
			return api.Expr{Op: api.OpGet, Text: f.Name, Kids: []api.Expr{x}}, true
		}
	}
	return api.Expr{}, false
}
