package world_test

import (
	"fmt"
	"testing"

	"hackamore/api"
	"hackamore/notation"
	"hackamore/num"
	"hackamore/world"
)

// text is the program of most tests.
const text = `
	primitive val None
	primitive val Bool
	primitive val U8
	primitive val U32
	primitive val USize
	primitive val F32
	class val String
	primitive val AmbientAuth
	actor tag Out
	be tag print(text: String val)
	class val Env
	let out: Out tag
	let args: "Array[String val]" val
	let root: AmbientAuth val
	trait ref main.S
	fun box far(): U32 val => lit.3{U32 val}
	fun box put(): U32 val => lit.4{U32 val}
	trait ref main.T is main.S ref
	fun box get(): U32 val
	fun box put(): U32 val => lit.2{U32 val}
	interface ref main.I
	fun box get(): U32 val
	class ref main.C is main.T ref
	var a: (main.C ref | None val)
	let b: (main.C val | None val)
	var c: U32 val
	fun box get(): U32 val => lit.1{U32 val}
	class ref main.D
	actor tag main.A is main.T ref
	var x: main.C iso
	var y: main.C ref
	fun box get(): U32 val => lit.5{U32 val}
	be tag go(c: main.C iso; n: U32 val)
	actor tag main.Main
	var last: main.C val
	new tag create(env: Env val)
`

// program returns the program of most tests, with further lines.
func program(more string) []api.Entity { return notation.Program(text + more) }

// none, truth, u8, u32, usize, object, actor, unit and tuple return values.
var none = unit("None")

func truth(n uint64) api.Value { return api.Value{Kind: api.ValBool, Lo: n} }

func number(typ string, n uint64) api.Value {
	v, e := num.Of(typ, n)
	if e != api.OK {
		panic(typ)
	}
	return v
}

func u8(n uint64) api.Value     { return number("U8", n) }
func u32(n uint64) api.Value    { return number("U32", n) }
func usize(n uint64) api.Value  { return number("USize", n) }
func object(n uint64) api.Value { return api.Value{Kind: api.ValObject, Lo: n} }
func actor(n uint64) api.Value  { return api.Value{Kind: api.ValActor, Lo: n} }

func unit(name string) api.Value { return api.Value{Kind: api.ValUnit, Name: name} }

func tuple(l ...api.Value) api.Value { return api.Value{Kind: api.ValTuple, Kids: l} }

// nested returns tuples that stand within each other, as many as levels, around a value.
func nested(levels int, v api.Value) api.Value {
	for range levels {
		v = tuple(v, u8(1))
	}
	return v
}

// told returns a text of anything in which a nil list is an empty one.
func told(v any) string { return fmt.Sprintf("%q", v) }

// begun returns the world at the beginning of a program.
func begun(t *testing.T, p []api.Entity, args ...string) *world.World {
	t.Helper()
	w, e := world.New(p, args)
	if e != api.OK {
		t.Fatalf("New: error %d", e)
	}
	return w
}

// must returns a value that came without an error.
func must(t *testing.T) func(v api.Value, e api.Errno) api.Value {
	return func(v api.Value, e api.Errno) api.Value {
		t.Helper()
		if e != api.OK {
			t.Fatalf("error %d", e)
		}
		return v
	}
}

// settled fails, unless the state of a world is right, and Load of it has it.
func settled(t *testing.T, w *world.World) {
	t.Helper()
	s := w.State()
	if e := world.Check(s); e != api.OK {
		t.Fatalf("Check: error %d of %s", e, told(s))
	}
	v, e := world.Load(s)
	if e != api.OK || told(v.State()) != told(s) {
		t.Fatalf("Load: error %d, %s", e, told(v.State()))
	}
}

// varied returns a state with all kinds of values.
func varied(t *testing.T) world.State {
	t.Helper()
	ok := must(t)
	w := begun(t, program(""), "a", "b") // objects 0 to 3
	a := ok(w.Spawn("main.A"))           // actor 2
	c := ok(w.Make(1, "main.C"))         // 4
	ok(w.Set(c, "a", c))
	ok(w.Set(c, "c", u32(7)))
	d := ok(w.Make(2, "main.D"))                                                // 5
	l := ok(w.Array(1, "Array[Any]", []api.Value{c, tuple(d, truth(1)), none})) // 6
	ok(w.Set(a, "y", tuple(l, tuple(a, u8(255)))))
	s := ok(w.Text(2, "x")) // 7
	for _, m := range []api.Message{{From: 1, To: 2, Name: "go", Args: []api.Value{c, u32(1)}}, {From: -1, To: 2, Name: ""}, {From: 2, To: 0, Name: "print", Args: []api.Value{s}}} {
		if e := w.Send(m); e != api.OK {
			t.Fatalf("Send: error %d", e)
		}
	}
	if _, _, e := w.Call(0, actor(0), "print", []api.Value{s}); e != api.OK {
		t.Fatalf("Call: error %d", e)
	}
	dropped := ok(w.Make(0, "main.D")) // 8
	if e := w.Drop(int(dropped.Lo)); e != api.OK {
		t.Fatalf("Drop: error %d", e)
	}
	removed := ok(w.Spawn("main.A")) // actor 3
	if e := w.Remove(int(removed.Lo)); e != api.OK {
		t.Fatalf("Remove: error %d", e)
	}
	return w.State()
}
