package meaning

import (
	"hackamore/api"
	"hackamore/num"
)

// frame is a body that is run, or an expression that is evaluated: for an actor, with a receiver and local variables.
type frame struct {
	*runner
	actor  int
	this   api.Value
	locals []Local
}

// shape is how many types an operation has, and how many kids; any number from least on, if most is below 0.
type shape struct{ types, least, most int }

var shapes = [api.OpLast + 1]shape{
	api.OpLit:      {1, 0, 0},
	api.OpLocal:    {0, 0, 0},
	api.OpThis:     {0, 0, 0},
	api.OpGet:      {0, 1, 1},
	api.OpSet:      {0, 2, 2},
	api.OpVar:      {1, 0, 1},
	api.OpLet:      {1, 0, 1},
	api.OpAssign:   {0, 1, 1},
	api.OpConsume:  {0, 0, 0},
	api.OpSeq:      {0, 0, -1},
	api.OpIf:       {0, 3, 3},
	api.OpWhile:    {0, 3, 3},
	api.OpMatch:    {0, 1, -1},
	api.OpCase:     {1, 2, 2},
	api.OpTry:      {0, 3, 3},
	api.OpError:    {0, 0, 0},
	api.OpReturn:   {0, 0, 1},
	api.OpBreak:    {0, 0, 0},
	api.OpContinue: {0, 0, 0},
	api.OpCall:     {0, 1, -1},
	api.OpNew:      {1, 0, -1},
	api.OpRecover:  {1, 1, 1},
	api.OpTuple:    {0, 2, -1},
	api.OpItem:     {0, 1, 1},
	api.OpIs:       {0, 2, 2},
	api.OpUnit:     {1, 0, 0},
}

// isShaped reports whether an expression is none of those without an operation, and has as many types and kids as its own has.
func isShaped(x api.Expr) bool {
	if x.Op <= 0 || x.Op > api.OpLast {
		return false
	}
	s := shapes[x.Op]
	return len(x.Types) == s.types && len(x.Kids) >= s.least && (s.most < 0 || len(x.Kids) <= s.most)
}

func none() api.Value { return unit("None") }

func unit(name string) api.Value { return api.Value{Kind: api.ValUnit, Name: name} }

func valued(v api.Value) Outcome { return Outcome{Value: v} }

// orNone returns a value, or None for what is no value.
func orNone(v api.Value) api.Value {
	if v.Kind == api.ValNone {
		return none()
	}
	return v
}

// eval evaluates an expression.
func (f *frame) eval(x api.Expr) Outcome {
	f.spend()
	if !isShaped(x) {
		return wrong(api.ErrForm)
	}
	switch x.Op {
	case api.OpIf:
		return f.evalIf(x)
	case api.OpWhile:
		return f.evalWhile(x)
	case api.OpMatch:
		return f.evalMatch(x)
	case api.OpTry:
		return f.evalTry(x)
	case api.OpError:
		return Outcome{Kind: Error}
	case api.OpBreak:
		return Outcome{Kind: Break}
	case api.OpContinue:
		return Outcome{Kind: Continue}
	case api.OpCase:
		return wrong(api.ErrForm)
	}
	var args []api.Value
	for _, k := range x.Kids {
		o := f.eval(k)
		if o.Kind != Value {
			return o
		}
		args = append(args, o.Value)
	}
	return f.operations[x.Op](f, x, args)
}

// evalOr evaluates an expression; the value of none is None.
func (f *frame) evalOr(x api.Expr) Outcome {
	if x.Op == 0 {
		return valued(none())
	}
	return f.eval(x)
}

// test evaluates a condition: whether it is true, if the outcome is a value.
func (f *frame) test(x api.Expr) (Outcome, bool) {
	o := f.eval(x)
	if o.Kind != Value {
		return o, false
	}
	if o.Value.Kind != api.ValBool || num.Check(o.Value) != api.OK {
		return wrong(api.ErrType), false
	}
	return o, o.Value.Lo == 1
}

func (f *frame) evalIf(x api.Expr) Outcome {
	o, is := f.test(x.Kids[0])
	switch {
	case o.Kind != Value:
		return o
	case is:
		return f.eval(x.Kids[1])
	}
	return f.evalOr(x.Kids[2])
}

func (f *frame) evalWhile(x api.Expr) Outcome {
	ran, last := false, api.Value{}
	for {
		o, is := f.test(x.Kids[0])
		switch {
		case o.Kind == Continue:
			continue
		case o.Kind == Break:
			return valued(none())
		case o.Kind != Value:
			return o
		case !is && ran:
			return valued(last)
		case !is:
			return f.evalOr(x.Kids[2])
		}
		o = f.eval(x.Kids[1])
		switch o.Kind {
		case Value:
			last = o.Value
		case Continue:
			last = none()
		case Break:
			return valued(none())
		default:
			return o
		}
		ran = true
	}
}

func (f *frame) evalMatch(x api.Expr) Outcome {
	operand := f.eval(x.Kids[0])
	if operand.Kind != Value {
		return operand
	}
	for _, c := range x.Kids[1:] {
		if c.Op != api.OpCase || !isShaped(c) {
			return wrong(api.ErrForm)
		}
		if !f.Is(operand.Value, c.Types[0]) {
			continue
		}
		if c.Text != "" {
			f.declare(c.Text, operand.Value)
		}
		if guard := c.Kids[0]; guard.Op != 0 {
			o, is := f.test(guard)
			if o.Kind != Value {
				return o
			}
			if !is {
				continue
			}
		}
		return f.eval(c.Kids[1])
	}
	return valued(none())
}

func (f *frame) evalTry(x api.Expr) Outcome {
	o := f.eval(x.Kids[0])
	if o.Kind == Error {
		o = f.evalOr(x.Kids[1])
	}
	if o.Kind == Wrong || x.Kids[2].Op == 0 {
		return o
	}
	if then := f.eval(x.Kids[2]); then.Kind != Value {
		return then
	}
	return o
}
