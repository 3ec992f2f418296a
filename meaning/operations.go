package meaning

import (
	"hackamore/api"
	"hackamore/exprs"
	"hackamore/num"
	"hackamore/world"
)

// operation is what an expression does with the values of its kids.
type operation = func(*frame, api.Expr, []api.Value) Outcome

// operations returns the operations that have no more than the values of their kids.
func operations() map[int]operation {
	return map[int]operation{
		api.OpLit:     (*frame).literal,
		api.OpLocal:   (*frame).local,
		api.OpThis:    (*frame).receiver,
		api.OpGet:     (*frame).get,
		api.OpSet:     (*frame).set,
		api.OpVar:     (*frame).variable,
		api.OpLet:     (*frame).variable,
		api.OpAssign:  (*frame).assign,
		api.OpConsume: (*frame).consume,
		api.OpSeq:     (*frame).last,
		api.OpReturn:  (*frame).leave,
		api.OpCall:    (*frame).callOf,
		api.OpNew:     (*frame).make,
		api.OpRecover: (*frame).last,
		api.OpTuple:   (*frame).tuple,
		api.OpItem:    (*frame).item,
		api.OpIs:      (*frame).same,
		api.OpUnit:    (*frame).unit,
	}
}

func (f *frame) literal(x api.Expr, _ []api.Value) Outcome {
	switch name := x.Types[0].Name; name {
	case "String":
		return given(f.Text(f.actor, x.Text))
	case "Bool":
		if x.Text != "true" && x.Text != "false" {
			return wrong(api.ErrForm)
		}
		return valued(truth(x.Text == "true"))
	default:
		v, e := num.Parse(name, x.Text)
		if e != api.OK {
			return wrong(e)
		}
		return valued(v)
	}
}

func truth(is bool) api.Value {
	v := api.Value{Kind: api.ValBool}
	if is {
		v.Lo = 1
	}
	return v
}

// place returns where the value of a local variable stands, or nil.
func (f *frame) place(name string) *api.Value {
	for i := range f.locals {
		if f.locals[i].Name == name {
			return &f.locals[i].Value
		}
	}
	return nil
}

// declare gives a value to a local variable: a new one behind the others, or the one that is there.
func (f *frame) declare(name string, v api.Value) {
	if p := f.place(name); p != nil {
		*p = v
		return
	}
	f.locals = append(f.locals, Local{name, v})
}

func (f *frame) local(x api.Expr, _ []api.Value) Outcome {
	p := f.place(x.Text)
	if p == nil {
		return wrong(api.ErrScope)
	}
	if p.Kind == api.ValNone {
		return wrong(world.ErrUnset)
	}
	return valued(*p)
}

func (f *frame) consume(x api.Expr, _ []api.Value) Outcome {
	o := f.local(x, nil)
	if o.Kind == Value {
		*f.place(x.Text) = api.Value{}
	}
	return o
}

func (f *frame) variable(x api.Expr, l []api.Value) Outcome {
	var v api.Value
	if len(l) > 0 {
		v = l[0]
	}
	f.declare(x.Text, v)
	return valued(none())
}

func (f *frame) assign(x api.Expr, l []api.Value) Outcome {
	p := f.place(x.Text)
	if p == nil {
		return wrong(api.ErrScope)
	}
	old := *p
	*p = l[0]
	return valued(orNone(old))
}

func (f *frame) receiver(api.Expr, []api.Value) Outcome { return valued(f.this) }

// isForeign reports whether a value is another actor than the one for whom this is evaluated.
func (f *frame) isForeign(v api.Value) bool {
	return v.Kind == api.ValActor && (f.actor < 0 || v.Lo != uint64(f.actor))
}

func (f *frame) get(x api.Expr, l []api.Value) Outcome {
	if f.isForeign(l[0]) {
		return wrong(api.ErrCap)
	}
	return given(f.Get(l[0], x.Text))
}

func (f *frame) set(x api.Expr, l []api.Value) Outcome {
	if f.isForeign(l[0]) {
		return wrong(api.ErrCap)
	}
	old, e := f.Set(l[0], x.Text, l[1])
	return given(orNone(old), e)
}

// last is the value of the last kid, None without any.
func (f *frame) last(_ api.Expr, l []api.Value) Outcome {
	if len(l) == 0 {
		return valued(none())
	}
	return valued(l[len(l)-1])
}

func (f *frame) leave(x api.Expr, l []api.Value) Outcome {
	o := f.last(x, l)
	o.Kind = Return
	return o
}

func (f *frame) callOf(x api.Expr, l []api.Value) Outcome { return f.call(l[0], x.Text, l[1:]) }

func (f *frame) tuple(_ api.Expr, l []api.Value) Outcome {
	return valued(api.Value{Kind: api.ValTuple, Kids: l})
}

func (f *frame) item(x api.Expr, l []api.Value) Outcome {
	if l[0].Kind != api.ValTuple {
		return wrong(api.ErrType)
	}
	n, ok := exprs.Index(x.Text)
	if !ok || n >= len(l[0].Kids) {
		return wrong(api.ErrRange)
	}
	return valued(l[0].Kids[n])
}

func (f *frame) same(_ api.Expr, l []api.Value) Outcome { return valued(truth(world.Same(l[0], l[1]))) }

func (f *frame) unit(x api.Expr, _ []api.Value) Outcome { return valued(unit(x.Types[0].Name)) }
