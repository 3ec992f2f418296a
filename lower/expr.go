package lower

import (
	"slices"
	"strings"

	"hackamore/api"
	"hackamore/exprs"
	"hackamore/num"
	"hackamore/ssa"
)

// eval lowers an expression, and returns its value, if anybody wants it. Where it has none, nothing behind it is live.
func (b *builder) eval(x api.Expr, want bool) int {
	switch x.Op {
	case api.OpSeq:
		return b.seq(x, want)
	case api.OpIf:
		return b.choice(x, want)
	case api.OpWhile:
		return b.while(x, want)
	case api.OpMatch:
		return b.match(x, want)
	case api.OpTry:
		return b.try(x, want)
	case api.OpError:
		b.leave(byError)
		return none
	case api.OpBreak:
		b.leave(byBreak)
		return none
	case api.OpContinue:
		b.leave(byContinue)
		return none
	case api.OpReturn:
		b.giveBack(b.last(x, !b.isNone()))
		return none
	case api.OpRecover:
		return b.eval(x.Kids[0], want)
	case api.OpVar, api.OpLet:
		b.store(b.local(x.Text), b.last(x, true))
		return none
	}
	var l []int
	for _, k := range x.Kids {
		l = append(l, b.need(b.eval(k, true)))
	}
	return b.simple(x, l)
}

// last lowers the only Kid of an expression, or None without one.
func (b *builder) last(x api.Expr, want bool) int {
	if len(x.Kids) == 0 {
		return none
	}
	return b.eval(x.Kids[0], want)
}

// evalOr lowers an expression; the value of none is None.
func (b *builder) evalOr(x api.Expr, want bool) int {
	if x.Op == 0 {
		return none
	}
	return b.eval(x, want)
}

// simple lowers an expression whose Kids have values.
func (b *builder) simple(x api.Expr, l []int) int {
	switch x.Op {
	case api.OpLit:
		return b.literal(x)
	case api.OpLocal:
		return b.load(b.local(x.Text))
	case api.OpConsume:
		v := b.load(b.local(x.Text))
		b.store(b.local(x.Text), none)
		return v
	case api.OpAssign:
		return b.store(b.local(x.Text), l[0])
	case api.OpThis:
		return 0
	case api.OpGet:
		return b.add(ssa.Ins{Op: ssa.Get, Text: x.Text, Args: l, Type: b.field(l[0], x.Text)})
	case api.OpSet:
		return b.add(ssa.Ins{Op: ssa.Set, Text: x.Text, Args: l})
	case api.OpCall:
		return b.call(x.Text, l)
	case api.OpNew:
		return b.create(x.Types[0].Name, x.Text, l)
	case api.OpTuple:
		return b.add(ssa.Ins{Op: ssa.Tuple, Args: l, Type: b.tuple(l)})
	case api.OpItem:
		n, _ := exprs.Index(x.Text)
		return b.add(ssa.Ins{Op: ssa.Item, Args: l, N: n, Type: b.part(l[0], n)})
	case api.OpIs:
		return b.add(ssa.Ins{Op: ssa.Is, Args: l, Type: named("Bool", api.Val)})
	}
	return b.constant(unit(x.Types[0].Name), named(x.Types[0].Name, api.Val))
}

func (b *builder) literal(x api.Expr) int {
	t := named(x.Types[0].Name, api.Val)
	if t.Name == "String" {
		return b.add(ssa.Ins{Op: ssa.Text, Text: x.Text, Type: t})
	}
	v, _ := literal(x)
	return b.constant(v, t)
}

// field returns the type of a field of a value, the zero one where it is not known.
func (b *builder) field(v int, name string) api.Type {
	x := b.entities[b.entity(v)]
	for _, f := range x.Fields {
		if f.Name == name {
			return f.Type
		}
	}
	return api.Type{}
}

// entity returns the name of the entity that a value has by its type.
func (b *builder) entity(v int) string {
	if t := b.typ(v); t.Kind == api.TypeName {
		return t.Name
	}
	return ""
}

// tuple returns the type of a tuple, if those of all its elements are known.
func (b *builder) tuple(l []int) api.Type {
	t := api.Type{Kind: api.TypeTuple}
	for _, v := range l {
		if b.typ(v).Kind == 0 {
			return api.Type{}
		}
		t.Args = append(t.Args, b.typ(v))
	}
	return t
}

// part returns the type of an element of a tuple.
func (b *builder) part(v, n int) api.Type {
	if t := b.typ(v); t.Kind == api.TypeTuple && n < len(t.Args) {
		return t.Args[n]
	}
	return api.Type{}
}

func (b *builder) seq(x api.Expr, want bool) int {
	v := none
	for i, k := range x.Kids {
		v = b.eval(k, want && i == len(x.Kids)-1)
	}
	return v
}

func (b *builder) choice(x api.Expr, want bool) int {
	result := b.temp()
	yes, no, out := &label{}, &label{}, &label{}
	b.branch(b.eval(x.Kids[0], true), yes, no)
	b.bind(yes)
	b.give(result, b.eval(x.Kids[1], want), want)
	b.jump(out)
	b.bind(no)
	b.give(result, b.evalOr(x.Kids[2], want), want)
	b.bind(out)
	return b.resultOf(result, want)
}

func (b *builder) match(x api.Expr, want bool) int {
	result, out := b.temp(), &label{}
	v := b.need(b.eval(x.Kids[0], true))
	for _, c := range x.Kids[1:] {
		yes, next := &label{}, &label{}
		fits := b.add(ssa.Ins{Op: ssa.Fits, Args: []int{v}, Type: c.Types[0]})
		b.branch(fits, yes, next)
		b.bind(yes)
		if c.Text != "" {
			b.store(b.local(c.Text), v)
		}
		if c.Kids[0].Op != 0 {
			body := &label{}
			b.branch(b.eval(c.Kids[0], true), body, next)
			b.bind(body)
		}
		b.give(result, b.eval(c.Kids[1], want), want)
		b.jump(out)
		b.bind(next)
	}
	b.give(result, none, want)
	b.bind(out)
	return b.resultOf(result, want)
}

// call lowers the call of a method. Whether it is a behaviour may be known only when it runs.
func (b *builder) call(name string, l []int) int {
	sent, run := b.isSent(name)
	switch {
	case !sent:
		return b.called(name, l)
	case !run:
		return b.add(ssa.Ins{Op: ssa.Send, Text: name, Args: l, Type: named("None", api.Val)})
	}
	result := b.temp()
	yes, no, out := &label{}, &label{}, &label{}
	fits := b.add(ssa.Ins{Op: ssa.Fits, Args: l[:1:1], Type: b.actors(name)})
	b.branch(fits, yes, no)
	b.bind(yes)
	b.store(result, b.add(ssa.Ins{Op: ssa.Send, Text: name, Args: l, Type: named("None", api.Val)}))
	b.jump(out)
	b.bind(no)
	b.store(result, b.called(name, l))
	b.bind(out)
	return b.load(result)
}

// called lowers the call of a method that is no behaviour.
func (b *builder) called(name string, l []int) int {
	m, _ := b.method(b.entity(l[0]), name)
	return b.perform(ssa.Ins{Op: ssa.Call, Text: name, Args: l, Type: m.Result}, b.raises[name])
}

// create lowers an OpNew.
func (b *builder) create(name, method string, l []int) int {
	if strings.HasPrefix(name, "Array[") && method == "create" && len(l) == 0 {
		return b.add(ssa.Ins{Op: ssa.Make, Text: name, Type: named(name, api.Ref)})
	}
	if _, e := num.Kind(name); e == api.OK && method == "create" && len(l) == 1 {
		return l[0]
	}
	x := b.entities[name]
	if x.Kind == api.Primitive {
		return b.constant(unit(name), named(name, api.Val))
	}
	m, ok := b.method(name, method)
	if !ok || m.Kind != api.New || len(l) != len(m.Params) || x.Kind != api.Actor && (x.Kind != api.Class || m.Body.Op == 0) {
		b.end(ssa.End{Kind: ssa.Stuck})
		return none
	}
	if x.Kind == api.Actor {
		return b.add(ssa.Ins{Op: ssa.Spawn, Name: name, Text: method, Args: l, Type: named(name, api.Tag)})
	}
	v := b.add(ssa.Ins{Op: ssa.Make, Text: name, Type: named(name, m.Cap)})
	b.perform(ssa.Ins{Op: ssa.Direct, Text: name + "." + method, Args: slices.Insert(slices.Clone(l), 0, v)}, m.Partial)
	return v
}
