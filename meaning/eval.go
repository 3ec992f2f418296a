package meaning

import (
	"hackamore/api"
	"hackamore/exprs"
	"hackamore/num"
)

// frame is a body that is run, or an expression that is evaluated: for an actor, with a receiver and local variables.
type frame struct {
	*runner
	actor  int
	this   api.Value
	locals []Local
}

func none() api.Value { return unit("None") }

func unit(name string) api.Value { return api.Value{Kind: api.ValUnit, Name: name} }

func valued(v api.Value) Outcome { return Outcome{Value: v} }

// orNone returns a value, or None for what is no value.
func orNone(v api.Value) api.Value {
	if v.Kind == api.ValNone {
		return none()
	}
	return v
}

// eval evaluates an expression.
func (f *frame) eval(x api.Expr) Outcome {
	f.spend()
	if !exprs.IsShaped(x) {
		return wrong(api.ErrForm)
	}
	switch x.Op {
	case api.OpIf:
		return f.evalIf(x)
	case api.OpWhile:
		return f.evalWhile(x)
	case api.OpMatch:
		return f.evalMatch(x)
	case api.OpTry:
		return f.evalTry(x)
	case api.OpError:
		return Outcome{Kind: Error}
	case api.OpBreak:
		return Outcome{Kind: Break}
	case api.OpContinue:
		return Outcome{Kind: Continue}
	case api.OpCase:
		return wrong(api.ErrForm)
	}
	var args []api.Value
	for _, k := range x.Kids {
		o := f.eval(k)
		if o.Kind != Value {
			return o
		}
		args = append(args, o.Value)
	}
	return f.operations[x.Op](f, x, args)
}

// evalOr evaluates an expression; the value of none is None.
func (f *frame) evalOr(x api.Expr) Outcome {
	if x.Op == 0 {
		return valued(none())
	}
	return f.eval(x)
}

// test evaluates a condition: whether it is true, if the outcome is a value.
func (f *frame) test(x api.Expr) (Outcome, bool) {
	o := f.eval(x)
	if o.Kind != Value {
		return o, false
	}
	if o.Value.Kind != api.ValBool || num.Check(o.Value) != api.OK {
		return wrong(api.ErrType), false
	}
	return o, o.Value.Lo == 1
}

func (f *frame) evalIf(x api.Expr) Outcome {
	o, is := f.test(x.Kids[0])
	switch {
	case o.Kind != Value:
		return o
	case is:
		return f.eval(x.Kids[1])
	}
	return f.evalOr(x.Kids[2])
}

func (f *frame) evalWhile(x api.Expr) Outcome {
	ran, last := false, api.Value{}
	for {
		o, is := f.test(x.Kids[0])
		switch {
		case o.Kind == Continue:
			continue
		case o.Kind == Break:
			return valued(none())
		case o.Kind != Value:
			return o
		case !is && ran:
			return valued(last)
		case !is:
			return f.evalOr(x.Kids[2])
		}
		o = f.eval(x.Kids[1])
		switch o.Kind {
		case Value:
			last = o.Value
		case Continue:
			last = none()
		case Break:
			return valued(none())
		default:
			return o
		}
		ran = true
	}
}

func (f *frame) evalMatch(x api.Expr) Outcome {
	operand := f.eval(x.Kids[0])
	if operand.Kind != Value {
		return operand
	}
	for _, c := range x.Kids[1:] {
		if c.Op != api.OpCase || !exprs.IsShaped(c) {
			return wrong(api.ErrForm)
		}
		if !f.Is(operand.Value, c.Types[0]) {
			continue
		}
		if c.Text != "" {
			f.declare(c.Text, operand.Value)
		}
		if guard := c.Kids[0]; guard.Op != 0 {
			o, is := f.test(guard)
			if o.Kind != Value {
				return o
			}
			if !is {
				continue
			}
		}
		return f.eval(c.Kids[1])
	}
	return valued(none())
}

func (f *frame) evalTry(x api.Expr) Outcome {
	o := f.eval(x.Kids[0])
	if o.Kind == Error {
		o = f.evalOr(x.Kids[1])
	}
	if o.Kind == Wrong || x.Kids[2].Op == 0 {
		return o
	}
	if then := f.eval(x.Kids[2]); then.Kind != Value {
		return then
	}
	return o
}
