package lower

import (
	"hackamore/api"
	"hackamore/meaning"
	"hackamore/num"
	"hackamore/ssa"
	"hackamore/world"
)

// function is a function that is run.
type function struct {
	ssa.Func
	values int      // how many numbers of values it has
	ways   [][2]int // of each block, which argument the phis behind its end have for its way, by the index in To
}

// runner is what the activations of one run share.
type runner struct {
	*world.World
	funcs      map[string]ssa.Func
	ready      map[string]*function // those that were run
	fuel, used int
	depth      int // in how many functions one is run
	actor      int
	methods    map[key]found
	operations map[int]operation
}

// found is a method, if it is there.
type found struct {
	api.Method
	ok bool
}

// newRunner returns a runner with a fuel from 0 to MaxFuel; false, if the functions are not right.
func newRunner(f ssa.Program, w *world.World, fuel int) (*runner, bool) {
	if _, e := ssa.Check(f); e != api.OK {
		return nil, false
	}
	r := &runner{
		World:      w,
		funcs:      map[string]ssa.Func{},
		ready:      map[string]*function{},
		fuel:       max(0, min(fuel, api.MaxFuel)),
		methods:    map[key]found{},
		operations: operations(),
	}
	for _, x := range f.Funcs {
		r.funcs[x.Name] = x
	}
	return r, true
}

// function returns the function with a name, or nil.
func (r *runner) function(name string) *function {
	f, ok := r.funcs[name]
	if ok && r.ready[name] == nil {
		r.ready[name] = newFunction(f)
	}
	return r.ready[name]
}

// newFunction returns a function whose values are numbered in order, so that an activation needs no more room than it has.
func newFunction(x ssa.Func) *function {
	f := &function{}
	f.Func, _ = ssa.Clean(x)
	f.values, f.ways = len(f.Params), make([][2]int, len(f.Blocks))
	count := make([]int, len(f.Blocks))
	for b, x := range f.Blocks {
		f.values += len(x.Ins) + 1
		for k, to := range x.End.To {
			f.ways[b][k] = count[to]
			count[to]++
		}
	}
	return f
}

// left is what leaves an activation: Empty or Wrong, with its code.
type left struct {
	kind int
	code api.Errno
}

func fail(e api.Errno) { panic(left{meaning.Wrong, e}) }

// must leaves by an error of the world, unless there is none.
func must(e api.Errno) {
	switch e {
	case api.OK:
	case api.ErrFull, api.ErrLarge, api.ErrDepth:
		panic(left{meaning.Empty, e})
	default:
		fail(e)
	}
}

// spend uses one of the fuel.
func (r *runner) spend() {
	if r.used >= r.fuel {
		panic(left{meaning.Empty, api.ErrSteps})
	}
	r.used++
}

// step lets the actor that a number chooses take a message; false, if none has mail.
func (r *runner) step(choice int) (end meaning.End, ok bool) {
	actor, ok := r.Choose(choice)
	if !ok {
		return rest(), false
	}
	defer func() {
		switch e := recover().(type) {
		case nil:
		case left:
			end, ok = meaning.End{Kind: meaning.Stuck, Actor: actor, Code: e.code}, true
			if e.kind == meaning.Empty {
				end.Kind = meaning.Fuel
			}
		default:
			panic(e)
		}
	}()
	r.spend()
	r.actor, r.depth = actor, 0
	r.take()
	return rest(), true
}

// take takes a message of the actor.
func (r *runner) take() {
	m, e := r.Take(r.actor)
	must(e)
	this := api.Value{Kind: api.ValActor, Lo: uint64(r.actor)}
	called, ok := r.method(r.Type(this), m.Name)
	if !ok || called.Kind != api.Be && called.Kind != api.New {
		fail(world.ErrMethod)
	}
	if len(called.Params) != len(m.Args) {
		fail(api.ErrSize)
	}
	if _, raised := r.callOf(this, m.Name, m.Args); raised {
		fail(api.ErrState)
	}
}

// method returns a method of an entity.
func (r *runner) method(typ, name string) (api.Method, bool) {
	m, ok := r.methods[key{typ, name}]
	if !ok {
		var e api.Errno
		m.Method, e = r.Method(typ, name)
		m.ok = e == api.OK
		r.methods[key{typ, name}] = m
	}
	return m.Method, m.ok
}

// callOf calls a method of a value: its value, and whether it raised an error.
func (r *runner) callOf(receiver api.Value, name string, args []api.Value) (api.Value, bool) {
	typ := r.Type(receiver)
	if typ == "" {
		fail(api.ErrType)
	}
	if f := r.function(typ + "." + name); f != nil {
		return r.run(f, append([]api.Value{receiver}, args...))
	}
	return r.native(receiver, name, args)
}

// native calls a method that the runtime gives.
func (r *runner) native(receiver api.Value, name string, args []api.Value) (api.Value, bool) {
	v, raised, e := r.Call(r.actor, receiver, name, args)
	must(e)
	return v, raised
}

// activation is a function that is run.
type activation struct {
	*runner
	*function
	values []api.Value
	locals map[string]api.Value
}

// run runs a function: its value, and whether it ended with an error.
func (r *runner) run(f *function, args []api.Value) (api.Value, bool) {
	if len(args) != len(f.Params) {
		fail(api.ErrSize)
	}
	if r.depth > meaning.MaxCalls {
		panic(left{meaning.Empty, api.ErrDepth})
	}
	r.depth++
	a := &activation{r, f, make([]api.Value, f.values), map[string]api.Value{}}
	copy(a.values, args)
	v, raised := a.play()
	r.depth--
	return v, raised
}

// play goes from block to block until the function ends.
func (a *activation) play() (api.Value, bool) {
	from, way := -1, 0
blocks:
	for at := 0; ; {
		a.block(at, from, way)
		x := a.Blocks[at].End
		a.spend()
		args := a.args(x.Args)
		from, way = at, 0
		switch x.Kind {
		case ssa.Branch:
			if !a.isTrue(args[0]) {
				way = 1
			}
		case ssa.Return:
			return args[0], false
		case ssa.Error:
			if !a.Partial {
				fail(api.ErrState)
			}
			break blocks
		case ssa.Try:
			if a.tries(x.Call) {
				way = 1
			}
		case ssa.Stuck:
			fail(api.ErrState)
		}
		at = x.To[way]
	}
	return api.Value{}, true
}

// isTrue tells whether a Bool is true.
func (a *activation) isTrue(v api.Value) bool {
	if v.Kind != api.ValBool || num.Check(v) != api.OK {
		fail(api.ErrType)
	}
	return v.Lo == 1
}

// tries makes the call of a try, and reports whether it ended with an error.
func (a *activation) tries(i ssa.Ins) bool {
	args := a.args(i.Args)
	if i.Op != ssa.Call && i.Op != ssa.Direct {
		fail(api.ErrForm)
	}
	v, raised := a.calls(i, args)
	if !raised {
		a.values[i.Result] = v
	}
	return raised
}

// args returns values that something is done with.
func (a *activation) args(l []int) []api.Value {
	var out []api.Value
	for _, v := range l {
		if a.values[v].Kind == api.ValNone {
			fail(world.ErrUnset)
		}
		out = append(out, a.values[v])
	}
	return out
}

// block performs the instructions of a block, which is entered by a way behind another one.
func (a *activation) block(at, from, way int) {
	l := a.Blocks[at].Ins
	phis := 0
	for ; phis < len(l) && l[phis].Op == ssa.Phi; phis++ {
		a.spend()
	}
	a.phis(l[:phis], from, way)
	for _, i := range l[phis:] {
		a.spend()
		if i.Op == ssa.Store {
			a.values[i.Result] = a.store(i)
			continue
		}
		a.values[i.Result] = a.operations[i.Op](a, i, a.args(i.Args))
	}
}

// phis gives all phis of a block their values at once.
func (a *activation) phis(l []ssa.Ins, from, way int) {
	if len(l) > 0 && from < 0 {
		fail(api.ErrForm)
	}
	var out []api.Value
	for _, i := range l {
		out = append(out, a.values[i.Args[a.ways[from][way]]])
	}
	for k, i := range l {
		a.values[i.Result] = out[k]
	}
}
