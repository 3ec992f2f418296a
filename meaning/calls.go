package meaning

import (
	"strings"

	"hackamore/api"
	"hackamore/num"
	"hackamore/world"
)

// call calls a method of a value.
func (f *frame) call(receiver api.Value, name string, args []api.Value) Outcome {
	typ := f.Type(receiver)
	if typ == "" {
		return wrong(api.ErrType)
	}
	m, ok := f.method(typ, name)
	if !ok || m.Body.Op == 0 && m.Kind != api.Be {
		return f.native(receiver, name, args)
	}
	switch {
	case m.Kind != api.Be && m.Kind != api.Fun:
		return wrong(world.ErrMethod)
	case m.Kind == api.Be && receiver.Kind != api.ValActor:
		return wrong(api.ErrType)
	case len(args) != len(m.Params):
		return wrong(api.ErrSize)
	case m.Kind == api.Fun:
		return f.run(m, receiver, args)
	}
	return f.send(receiver, name, args, none())
}

// send sends a message to an actor; the outcome is a value, if it was sent.
func (f *frame) send(to api.Value, name string, args []api.Value, v api.Value) Outcome {
	return given(v, f.Send(api.Message{From: f.actor, To: int(to.Lo), Name: name, Args: args}))
}

// native calls a method that the runtime gives.
func (f *frame) native(receiver api.Value, name string, args []api.Value) Outcome {
	v, raised, e := f.Call(f.actor, receiver, name, args)
	if raised {
		return Outcome{Kind: Error}
	}
	return given(v, e)
}

// run runs the body of a method, with as many arguments as it has parameters.
func (f *frame) run(m api.Method, this api.Value, args []api.Value) Outcome {
	if f.bodies > MaxCalls {
		panic(empty{api.ErrDepth})
	}
	inner := &frame{runner: f.runner, actor: f.actor, this: this}
	for i, p := range m.Params {
		inner.declare(p.Name, args[i])
	}
	f.bodies++
	o := inner.eval(m.Body)
	f.bodies--
	switch o.Kind {
	case Value, Return:
		if m.Result.Kind == api.TypeName && m.Result.Name == "None" {
			return valued(none())
		}
		return valued(o.Value)
	case Error:
		if !m.Partial {
			return wrong(api.ErrState)
		}
	case Break, Continue:
		return wrong(api.ErrForm)
	}
	return o
}

// make makes what an OpNew names.
func (f *frame) make(x api.Expr, args []api.Value) Outcome {
	name := x.Types[0].Name
	if strings.HasPrefix(name, "Array[") && x.Text == "create" && len(args) == 0 {
		return given(f.Array(f.actor, name, nil))
	}
	if _, e := num.Kind(name); e == api.OK && x.Text == "create" && len(args) == 1 {
		if f.Type(args[0]) != name {
			return wrong(api.ErrType)
		}
		return valued(args[0])
	}
	kind := f.kind(name)
	switch kind {
	case api.Primitive:
		return valued(unit(name))
	case api.Class, api.Actor:
	default:
		return wrong(world.ErrMethod)
	}
	m, ok := f.method(name, x.Text)
	if !ok || m.Kind != api.New {
		return wrong(world.ErrMethod)
	}
	if len(args) != len(m.Params) {
		return wrong(api.ErrSize)
	}
	if kind == api.Actor {
		return f.spawn(name, x.Text, args)
	}
	made := given(f.Make(f.actor, name))
	if made.Kind != Value {
		return made
	}
	if o := f.run(m, made.Value, args); o.Kind != Value {
		return o
	}
	return made
}

// spawn makes an actor, and sends it the message of its constructor.
func (f *frame) spawn(typ, name string, args []api.Value) Outcome {
	made := given(f.Spawn(typ))
	if made.Kind != Value {
		return made
	}
	return f.send(made.Value, name, args, made.Value)
}
