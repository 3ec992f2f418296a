package lower

import (
	"slices"
	"strings"

	"hackamore/api"
	"hackamore/ssa"
	"hackamore/world"
)

// operation is what an instruction does with its Args.
type operation = func(*activation, ssa.Ins, []api.Value) api.Value

// operations returns all operations but phi and store, which take what has no value, too.
func operations() map[int]operation {
	return map[int]operation{
		ssa.Const:  (*activation).constant,
		ssa.Text:   (*activation).text,
		ssa.Load:   (*activation).load,
		ssa.Get:    (*activation).get,
		ssa.Set:    (*activation).set,
		ssa.Make:   (*activation).make,
		ssa.Call:   (*activation).call,
		ssa.Direct: (*activation).call,
		ssa.Native: (*activation).call,
		ssa.Spawn:  (*activation).spawn,
		ssa.Send:   (*activation).send,
		ssa.Tuple:  (*activation).tuple,
		ssa.Item:   (*activation).item,
		ssa.Is:     (*activation).same,
		ssa.Fits:   (*activation).fits,
	}
}

// given returns a value of the world, or leaves by its error.
func given(v api.Value, e api.Errno) api.Value {
	must(e)
	return v
}

// orNone returns a value, or None for what is no value.
func orNone(v api.Value) api.Value {
	if v.Kind == api.ValNone {
		return unit("None")
	}
	return v
}

func (a *activation) constant(i ssa.Ins, _ []api.Value) api.Value { return i.Lit }

func (a *activation) text(i ssa.Ins, _ []api.Value) api.Value { return given(a.Text(a.actor, i.Text)) }

func (a *activation) load(i ssa.Ins, _ []api.Value) api.Value {
	v := a.locals[i.Text]
	if v.Kind == api.ValNone {
		fail(world.ErrUnset)
	}
	return v
}

func (a *activation) store(i ssa.Ins) api.Value {
	old := a.locals[i.Text]
	a.locals[i.Text] = a.values[i.Args[0]]
	return orNone(old)
}

// own leaves for a field of another actor.
func (a *activation) own(v api.Value) {
	if v.Kind == api.ValActor && v.Lo != uint64(a.actor) {
		fail(api.ErrCap)
	}
}

func (a *activation) get(i ssa.Ins, l []api.Value) api.Value {
	a.own(l[0])
	return given(a.Get(l[0], i.Text))
}

func (a *activation) set(i ssa.Ins, l []api.Value) api.Value {
	a.own(l[0])
	return orNone(given(a.Set(l[0], i.Text, l[1])))
}

func (a *activation) make(i ssa.Ins, _ []api.Value) api.Value {
	if strings.HasPrefix(i.Text, "Array[") && strings.HasSuffix(i.Text, "]") {
		return given(a.Array(a.actor, i.Text, nil))
	}
	return given(a.Make(a.actor, i.Text))
}

// call performs a call, a direct or a native that must not raise an error.
func (a *activation) call(i ssa.Ins, l []api.Value) api.Value {
	v, raised := a.calls(i, l)
	if raised {
		fail(api.ErrState)
	}
	return v
}

// calls performs a call, a direct or a native, and reports whether it raised an error.
func (a *activation) calls(i ssa.Ins, l []api.Value) (api.Value, bool) {
	if i.Op == ssa.Direct {
		f := a.runner.function(i.Text)
		if f == nil {
			fail(world.ErrMethod)
		}
		return a.run(f, l)
	}
	if len(l) == 0 {
		fail(world.ErrBroken)
	}
	if i.Op == ssa.Call {
		return a.callOf(l[0], i.Text, l[1:])
	}
	return a.native(l[0], i.Text[strings.LastIndexByte(i.Text, '.')+1:], l[1:])
}

func (a *activation) spawn(i ssa.Ins, l []api.Value) api.Value {
	x, e := a.Entity(i.Name)
	must(e)
	m, ok := a.method(i.Name, i.Text)
	if x.Kind != api.Actor || !ok || m.Kind != api.New {
		fail(world.ErrMethod)
	}
	if len(l) != len(m.Params) {
		fail(api.ErrSize)
	}
	made := given(a.Spawn(i.Name))
	a.post(made, i.Text, l)
	return made
}

// post sends a message to an actor.
func (a *activation) post(to api.Value, name string, args []api.Value) {
	must(a.Send(api.Message{From: a.actor, To: int(to.Lo), Name: name, Args: args}))
}

func (a *activation) send(i ssa.Ins, l []api.Value) api.Value {
	if l[0].Kind != api.ValActor {
		fail(api.ErrType)
	}
	a.post(l[0], i.Text, l[1:])
	return unit("None")
}

func (a *activation) tuple(_ ssa.Ins, l []api.Value) api.Value {
	return api.Value{Kind: api.ValTuple, Kids: slices.Clone(l)}
}

func (a *activation) item(i ssa.Ins, l []api.Value) api.Value {
	if l[0].Kind != api.ValTuple {
		fail(api.ErrType)
	}
	if i.N >= len(l[0].Kids) {
		fail(api.ErrRange)
	}
	return l[0].Kids[i.N]
}

func (a *activation) same(_ ssa.Ins, l []api.Value) api.Value { return truth(world.Same(l[0], l[1])) }

func (a *activation) fits(i ssa.Ins, l []api.Value) api.Value { return truth(a.Is(l[0], i.Type)) }
