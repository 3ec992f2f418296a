package lower

import (
	"slices"
	"strconv"

	"hackamore/api"
	"hackamore/exprs"
	"hackamore/ssa"
)

// label is a place that is jumped to; its block is known once it is bound.
type label struct {
	block int
	used  bool
}

// block is a block with the labels of its end.
type block struct {
	ssa.Block
	to []*label
}

// builder makes the function of a method.
type builder struct {
	*program
	made     api.Method
	blocks   []block
	live     bool                // whether what comes next is reached
	count    int                 // of instructions
	types    []api.Type          // of values
	declared map[string]api.Type // the types of local variables, the zero one where it may be another one
	locals   map[string]string   // the names that local variables have in the function
	holds    map[string]api.Type // the types of these
	temps    int
	back     string // the variable with the value of a return that has to do something else first
	around   []*surrounding
	fails    *label // where an error leaves the function
}

// none stands for the unit None where no instruction has made it yet.
const none = -1

// tooLarge leaves the making of a function that is too large.
type tooLarge struct{}

// lower returns the function of a method of an entity.
func (q *program) lower(entity string, m api.Method) (f ssa.Func, e api.Errno) {
	if !exprs.IsSmall(m.Body) || m.Body.Op == api.OpCase || !isForm(m.Body, false) {
		return ssa.Func{}, ErrLower
	}
	defer func() {
		if r := recover(); r != nil {
			if _, ok := r.(tooLarge); !ok {
				panic(r)
			}
			f, e = ssa.Func{}, ErrLower
		}
	}()
	b := &builder{program: q, made: m, live: true, declared: map[string]api.Type{}, locals: map[string]string{}, holds: map[string]api.Type{}}
	f = b.function(entity)
	if f, e = ssa.Clean(f); e != api.OK {
		return ssa.Func{}, ErrLower
	}
	return f, api.OK
}

// function returns the function of the method, whose values may have any numbers.
func (b *builder) function(entity string) ssa.Func {
	f := ssa.Func{Name: entity + "." + b.made.Name, Params: []api.Type{named(entity, b.made.Cap)}, Result: b.made.Result, Partial: b.made.Partial}
	for _, p := range b.made.Params {
		f.Params = append(f.Params, p.Type)
	}
	b.types = slices.Clone(f.Params)
	b.declare()
	b.back = b.temp()
	b.blocks = []block{{}}
	for i, p := range b.made.Params {
		b.store(b.local(p.Name), i+1)
	}
	v := b.eval(b.made.Body, b.isWanted())
	b.giveBack(v)
	for _, x := range b.blocks {
		for _, l := range x.to {
			x.End.To = append(x.End.To, l.block)
		}
		f.Blocks = append(f.Blocks, x.Block)
	}
	b.begin(&f)
	return f
}

// isNone reports whether the function has None, whatever the body does.
func (b *builder) isNone() bool {
	return b.made.Result.Kind == api.TypeName && b.made.Result.Name == "None"
}

// isWanted reports whether anybody gets the value of the body.
func (b *builder) isWanted() bool {
	return b.made.Kind != api.New && b.made.Kind != api.Be && !b.isNone()
}

// declare finds the types of the local variables. One that may have no value when it is assigned has None as its old one.
func (b *builder) declare() {
	note := func(name string, t api.Type) {
		if known, ok := b.declared[name]; ok && !exprs.EqualType(known, t) {
			t = api.Type{}
		}
		b.declared[name] = t
	}
	for _, p := range b.made.Params {
		note(p.Name, p.Type)
	}
	unset, assigned := map[string]bool{}, map[string]bool{}
	for _, x := range exprs.Walk(b.made.Body) {
		switch x.Op {
		case api.OpVar, api.OpLet:
			unset[x.Text] = unset[x.Text] || len(x.Kids) == 0
			note(x.Text, x.Types[0])
		case api.OpCase:
			note(x.Text, x.Types[0])
		case api.OpConsume:
			unset[x.Text] = true
		case api.OpAssign:
			assigned[x.Text] = true
		}
	}
	for name := range assigned {
		if unset[name] {
			b.declared[name] = api.Type{}
		}
	}
}

// local returns the name that a local variable has in the function: texts of variables may be any.
func (b *builder) local(name string) string {
	s, ok := b.locals[name]
	if !ok {
		s = "x" + strconv.Itoa(len(b.locals))
		b.locals[name] = s
		b.holds[s] = b.declared[name]
	}
	return s
}

// temp returns the name of a variable that the body does not have.
func (b *builder) temp() string {
	b.temps++
	return "t" + strconv.Itoa(b.temps)
}

// value returns a number for a value of a type.
func (b *builder) value(t api.Type) int {
	b.types = append(b.types, t)
	return len(b.types) - 1
}

// add puts an instruction behind the others, and returns its value.
func (b *builder) add(i ssa.Ins) int {
	i.Result = b.value(i.Type)
	if !b.live {
		return i.Result
	}
	b.grow()
	x := &b.blocks[len(b.blocks)-1]
	x.Ins = append(x.Ins, i)
	return i.Result
}

// grow counts an instruction.
func (b *builder) grow() {
	if b.count++; b.count > 4000 {
		panic(tooLarge{})
	}
}

// end ends the block.
func (b *builder) end(x ssa.End, to ...*label) {
	if !b.live {
		return
	}
	last := &b.blocks[len(b.blocks)-1]
	last.End, last.to = x, to
	for _, l := range to {
		l.used = true
	}
	b.live = false
}

func (b *builder) jump(to *label) { b.end(ssa.End{Kind: ssa.Jump}, to) }

func (b *builder) branch(v int, yes, no *label) {
	b.end(ssa.End{Kind: ssa.Branch, Args: []int{b.need(v)}}, yes, no)
}

// bind lets what comes next be what a label stands for.
func (b *builder) bind(l *label) {
	b.jump(l)
	if !l.used {
		return
	}
	if len(b.blocks) >= 400 {
		panic(tooLarge{})
	}
	l.block = len(b.blocks)
	b.blocks = append(b.blocks, block{})
	b.live = true
}

// need returns a value that an instruction has made.
func (b *builder) need(v int) int {
	if v == none {
		return b.constant(unit("None"), named("None", api.Val))
	}
	return v
}

func (b *builder) constant(v api.Value, t api.Type) int {
	return b.add(ssa.Ins{Op: ssa.Const, Lit: v, Type: t})
}

func (b *builder) truth(is bool) int { return b.constant(truth(is), named("Bool", api.Val)) }

// store stores a value in a variable, and returns what this had.
func (b *builder) store(name string, v int) int {
	return b.add(ssa.Ins{Op: ssa.Store, Text: name, Args: []int{b.need(v)}, Type: b.holds[name]})
}

func (b *builder) load(name string) int {
	return b.add(ssa.Ins{Op: ssa.Load, Text: name, Type: b.holds[name]})
}

// typ returns the type of a value.
func (b *builder) typ(v int) api.Type {
	if v == none {
		return named("None", api.Val)
	}
	return b.types[v]
}

// begin stores None ahead of all in those variables that may be read where nothing was stored: such a function is right, and what
// it does there does not matter, since layer 18 never comes to it.
func (b *builder) begin(f *ssa.Func) {
	l := open(*f)
	if len(l) == 0 {
		return
	}
	v := b.value(named("None", api.Val))
	ins := []ssa.Ins{{Op: ssa.Const, Result: v, Lit: unit("None"), Type: b.types[v]}}
	for _, name := range l {
		ins = append(ins, ssa.Ins{Op: ssa.Store, Text: name, Args: []int{v}, Type: b.holds[name], Result: b.value(b.holds[name])})
	}
	f.Blocks[0].Ins = append(ins, f.Blocks[0].Ins...)
}
