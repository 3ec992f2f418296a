package draw

import (
	"strconv"

	"hackamore/api"
	"hackamore/check"
	"hackamore/notation"
	"hackamore/subtype"
	"hackamore/types"
)

// builtin is what drawn programs have of the builtin entities.
const builtin = `
	interface tag Any
	primitive val None
	fun box string(): String val
	primitive val Bool
	fun box op_and(that: Bool val): Bool val
	fun box op_not(): Bool val
	primitive val U32
	new val create(value: U32 val)
	fun box add(that: U32 val): U32 val
	fun box add_partial(that: U32 val): U32 val ?
	fun box lt(that: U32 val): Bool val
	fun box string(): String val
	primitive val USize
	fun box add(that: USize val): USize val
	class val String
	fun box size(): USize val
	fun box add(that: String box): String val
	class ref Array[String val]
	fun box size(): USize val
	fun box apply(i: USize val): (this -> String val) ?
	class ref Array[main.C0 ref]
	new ref create()
	fun box apply(i: USize val): (this -> main.C0 ref) ?
	fun ref push(value: main.C0 ref): None val
	fun ref pop(): main.C0 ref ?
	primitive val AmbientAuth
	actor tag Out
	be tag print(text: String val)
	class val Env
	let out: Out tag
	let args: "Array[String val]" val
	let root: AmbientAuth val
	trait ref main.T
	fun box get(): U32 val
	fun ref put(x: main.C0 ref): main.C0 ref
	be tag go(x: main.C0 iso)
	fun box twice(): U32 val => (call.add (call.get this) (call.get this))
	interface ref main.I
	fun box get(): U32 val
	primitive val main.P
	fun box get(): U32 val => lit.7{U32 val}
`

// core draws the parts of a program that layer 13 takes.
type core struct {
	*Maker
	p       []api.Entity
	classes []string
	actors  []string
	made    api.Method    // the method whose body is drawn
	this    api.Type      // the type of its receiver
	locals  []check.Local // that are declared ahead
	names   int           // of locals that were declared
	tries   int           // around the place
}

// Core returns a program that layer 13 takes, with traits, an interface, classes, actors and a primitive, whose bodies have all
// operations. It is shallow, and may be run.
func (m *Maker) Core() []api.Entity {
	d := &core{Maker: m, p: notation.Program(builtin)}
	own := len(d.p)
	for i := range 2 + m.Below(3) {
		d.classes = append(d.classes, "main.C"+strconv.Itoa(i))
	}
	for i := range 1 + m.Below(2) {
		d.actors = append(d.actors, "main.A"+strconv.Itoa(i))
	}
	d.actors = append(d.actors, "main.Main")
	for i, name := range d.classes {
		d.p = append(d.p, d.class(name, i))
	}
	for _, name := range d.actors {
		d.p = append(d.p, d.actor(name))
	}
	for i := own; i < len(d.p); i++ {
		for j := range d.p[i].Methods {
			d.body(i, j)
		}
	}
	return d.p
}

// class returns a class without bodies. Its fields have no class behind it without None, so that its objects can be made.
func (d *core) class(name string, number int) api.Entity {
	x := api.Entity{Kind: api.Class, Name: name, Cap: api.Ref}
	whole := d.classes
	d.classes = whole[:number]
	for i := range 1 + d.Below(3) {
		x.Fields = append(x.Fields, api.Field{Name: string("abc"[i]), Let: d.Below(4) == 0, Type: d.typ(2)})
	}
	d.classes = whole
	x.Fields = append(x.Fields, api.Field{Name: "next", Type: notation.Type("(main.C0 " + One(d.Maker, "ref", "iso", "val") + " | None val)")})
	x.Methods = append(x.Methods, notation.Method("new ref create()"), notation.Method("new iso make()"), notation.Method("new trn keep(x: U32 val; y: main.P val)"), notation.Method("fun box get(): U32 val"))
	for i := range 1 + d.Below(3) {
		x.Methods = append(x.Methods, d.function("f"+strconv.Itoa(i)))
	}
	return x
}

// actor returns an actor without bodies.
func (d *core) actor(name string) api.Entity {
	x := api.Entity{Kind: api.Actor, Name: name, Cap: api.Tag, Fields: []api.Field{{Name: "a", Type: d.typ(2)}, {Name: "b", Type: d.typ(1)}}}
	create := notation.Method("new tag create()")
	if name == "main.Main" {
		create = notation.Method("new tag create(env: Env val)")
	} else {
		x.Provides = notation.Types("main.T ref")
		x.Methods = append(x.Methods, notation.Method("fun box get(): U32 val"), notation.Method("fun ref put(x: main.C0 ref): main.C0 ref"), notation.Method("be tag go(x: main.C0 iso)"))
	}
	x.Methods = append(x.Methods, create, d.function("f0"))
	for i := range 1 + d.Below(2) {
		b := api.Method{Kind: api.Be, Name: "b" + strconv.Itoa(i), Cap: api.Tag}
		for j := range d.Below(3) {
			b.Params = append(b.Params, api.Param{Name: string("xyz"[j]), Type: d.sent()})
		}
		x.Methods = append(x.Methods, b)
	}
	return x
}

// function returns a function without a body.
func (d *core) function(name string) api.Method {
	f := api.Method{Kind: api.Fun, Name: name, Cap: One(d.Maker, api.Box, api.Ref, api.Ref, api.Val, api.Tag, api.Trn, api.Iso), Result: d.typ(2), Partial: d.Below(4) == 0}
	for i := range d.Below(3) {
		f.Params = append(f.Params, api.Param{Name: string("xyz"[i]), Type: d.typ(2)})
	}
	return f
}

// typ returns the type of a field, a local variable, a parameter or a result.
func (d *core) typ(depth int) api.Type {
	if depth > 1 {
		switch d.Below(6) {
		case 0:
			return api.Type{Kind: api.TypeUnion, Args: []api.Type{d.typ(1), notation.Type(One(d.Maker, "None val", "U32 val", "main.P val"))}}
		case 1:
			return api.Type{Kind: api.TypeTuple, Args: []api.Type{d.typ(1), d.typ(depth - 1)}}
		}
	}
	plain := notation.Type(One(d.Maker, "U32 val", "Bool val", "String val", "main.I val", "main.I box", "main.A0 tag", "Any tag", "main.T tag"))
	if len(d.classes) == 0 || d.Below(5) < 2 {
		return plain
	}
	return types.Named(One(d.Maker, d.classes...), d.Cap(), nil)
}

// sent returns the type of what a behaviour gets.
func (d *core) sent() api.Type {
	for {
		if t := d.typ(2); types.Sendable(t) {
			return t
		}
	}
}

// fits reports whether a value of a type may stand where another one is wanted.
func (d *core) fits(a, b api.Type) bool { return subtype.Is(d.p, a, b) }
