package meaning

import (
	"hackamore/api"
	"hackamore/world"
)

// runner is what the evaluations of one run share.
type runner struct {
	*world.World
	fuel, used int
	bodies     int                 // that are run, each within the one ahead
	kinds      map[string]int      // of entities that were looked for, 0 of those that are not there
	methods    map[methodKey]found // that were looked for
	operations map[int]operation
}

// methodKey is the name of an entity, and of a method.
type methodKey struct{ typ, name string }

// found is a method, if it is there.
type found struct {
	method api.Method
	ok     bool
}

// newRunner returns a runner with a fuel from 0 to MaxFuel.
func newRunner(w *world.World, fuel int) *runner {
	return &runner{
		World:      w,
		fuel:       max(0, min(fuel, api.MaxFuel)),
		kinds:      map[string]int{},
		methods:    map[methodKey]found{},
		operations: operations(),
	}
}

// method returns a method of an entity.
func (r *runner) method(typ, name string) (api.Method, bool) {
	key := methodKey{typ, name}
	m, ok := r.methods[key]
	if !ok {
		var e api.Errno
		m.method, e = r.Method(typ, name)
		m.ok = e == api.OK
		r.methods[key] = m
	}
	return m.method, m.ok
}

// kind returns the kind of an entity, 0 if it is not there.
func (r *runner) kind(name string) int {
	k, ok := r.kinds[name]
	if !ok {
		x, _ := r.Entity(name)
		k = x.Kind
		r.kinds[name] = k
	}
	return k
}

// empty ends an evaluation from deep within: Code says whether by the fuel, a limit or the depth.
type empty struct{ code api.Errno }

// ended returns the outcome of an evaluation, also if it leaves by panic.
func (r *runner) ended(evaluate func() Outcome) (o Outcome) {
	defer func() {
		switch e := recover().(type) {
		case nil:
		case empty:
			o = Outcome{Kind: Empty, Code: e.code}
		default:
			panic(e)
		}
	}()
	return evaluate()
}

// spend uses one of the fuel.
func (r *runner) spend() {
	if r.used >= r.fuel {
		panic(empty{api.ErrSteps})
	}
	r.used++
}

func wrong(e api.Errno) Outcome { return Outcome{Kind: Wrong, Code: e} }

// failed returns the outcome of an error of the world.
func failed(e api.Errno) Outcome {
	switch e {
	case api.ErrFull, api.ErrLarge, api.ErrDepth:
		panic(empty{e})
	}
	return wrong(e)
}

// given returns the outcome of what the world returned.
func given(v api.Value, e api.Errno) Outcome {
	if e != api.OK {
		return failed(e)
	}
	return Outcome{Value: v}
}

// step lets the actor that a number chooses take a message; false, if none has mail.
func (r *runner) step(choice int) (End, bool) {
	actor, ok := r.Choose(choice)
	if !ok {
		return End{Rest, -1, api.OK}, false
	}
	o := r.ended(func() Outcome {
		r.spend()
		return r.take(actor)
	})
	switch o.Kind {
	case Value:
		return End{Rest, -1, api.OK}, true
	case Empty:
		return End{Fuel, actor, o.Code}, true
	case Wrong:
		return End{Stuck, actor, o.Code}, true
	}
	return End{Stuck, actor, api.ErrState}, true
}

// take takes a message of an actor that has one.
func (r *runner) take(actor int) Outcome {
	m, e := r.Take(actor)
	if e != api.OK {
		return failed(e)
	}
	this := api.Value{Kind: api.ValActor, Lo: uint64(actor)}
	f := &frame{runner: r, actor: actor}
	called, ok := r.method(r.Type(this), m.Name)
	switch {
	case !ok || called.Kind != api.Be && called.Kind != api.New:
		return wrong(world.ErrMethod)
	case len(called.Params) != len(m.Args):
		return wrong(api.ErrSize)
	case called.Body.Op == 0:
		return f.native(this, m.Name, m.Args)
	}
	return f.run(called, this, m.Args)
}
