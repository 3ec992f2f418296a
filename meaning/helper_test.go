package meaning_test

import (
	"fmt"
	"strconv"
	"strings"
	"testing"

	"hackamore/api"
	"hackamore/meaning"
	"hackamore/notation"
	"hackamore/world"
)

// text is the program of most tests.
const text = `
	primitive val None
	primitive val Bool
	primitive val U8
	primitive val U32
	primitive val USize
	class val String
	primitive val AmbientAuth
	primitive val main.P
	fun box seven(): U32 val => lit.7{U32 val}
	actor tag Out
	be tag print(text: String val)
	class val Env
	let out: Out tag
	let args: "Array[String val]" val
	let root: AmbientAuth val
	trait ref main.T is main.S ref
	new ref far() => lit.1{U32 val}
	fun box twice(x: U32 val): U32 val => (call.add local.x local.x)
	trait ref main.S
	fun box get(): U32 val => lit.99{U32 val}
	class ref main.C is main.T ref
	var n: U32 val
	var o: (main.C ref | None val)
	new ref create(n: U32 val) => (seq (set.n this local.n) (set.o this this))
	new ref plain() => (return)
	new ref failing() ? => (seq (set.n this lit.1{U32 val}) error)
	new ref lying() => error
	new ref leaving() => break
	new ref bare()
	fun box get(): U32 val => (get.n this)
	fun ref put(n: U32 val): None val => (set.n this local.n)
	fun box fails(): U32 val ? => error
	fun box lies(): U32 val => error
	fun box back(x: U32 val): U32 val => (seq (return local.x) lit.1{U32 val})
	fun box nothing(): None val => (return lit.1{U32 val})
	fun box nothings(): None box => lit.1{U32 val}
	fun box anything() => lit.1{U32 val}
	fun box breaks(): U32 val => break
	fun box goes(): U32 val => (while lit.true{Bool val} (call.continues this) -)
	fun box continues(): U32 val => continue
	fun box deep(x: U32 val): U32 val => (if (call.eq local.x lit.0{U32 val}) lit.0{U32 val} (call.add lit.1{U32 val} (call.deep this (call.sub local.x lit.1{U32 val}))))
	fun box bare(): U32 val
	fun box own(x: U32 val): U32 val => (seq (var.y{U32 val} local.x) (assign.x lit.0{U32 val}) local.y)
	be tag late(x: U32 val)
	actor tag main.A is main.B ref
	var n: U32 val
	new tag create(n: U32 val) => (set.n this local.n)
	new tag failing() ? => error
	be tag go(n: U32 val) => (seq (set.n this local.n) (call.go this (call.add local.n lit.1{U32 val})))
	be tag once(n: U32 val) => (set.n this local.n)
	be tag bare()
	be tag fails() => error
	be tag failing_too() ? => error
	be tag breaks() => break
	be tag spins() => (while lit.true{Bool val} lit.1{U32 val} -)
	be tag dives() => (call.dive this)
	fun ref dive(): None val => (call.dive this)
	fun ref read(): U32 val => (get.n this)
	trait ref main.B
	be tag far(x: U32 val) => (set.n this local.x)
	be tag open()
	actor tag main.Main
	var n: U32 val
	new tag create(env: Env val) => unit{None val}
	fun box read(a: main.A tag): U32 val => (get.n local.a)
`

func program(more string) []api.Entity { return notation.Program(text + more) }

func number(n uint64) api.Value { return api.Value{Kind: api.ValNumber + 8, Lo: n} }

func usize(n uint64) api.Value { return api.Value{Kind: api.ValNumber + 11, Lo: n} }

func truth(n uint64) api.Value  { return api.Value{Kind: api.ValBool, Lo: n} }
func object(n uint64) api.Value { return api.Value{Kind: api.ValObject, Lo: n} }
func actor(n uint64) api.Value  { return api.Value{Kind: api.ValActor, Lo: n} }
func unit(n string) api.Value   { return api.Value{Kind: api.ValUnit, Name: n} }

func tuple(l ...api.Value) api.Value { return api.Value{Kind: api.ValTuple, Kids: l} }

// told returns a text of anything in which a nil list is an empty one.
func told(v any) string { return fmt.Sprintf("%q", v) }

// made returns a world without mail that has, behind the objects 0 and 1 of the beginning, the object 2 of main.C with n = 5, the
// Array 3 of two numbers, the String 4, and the actor 2 of main.A.
func made(t *testing.T) *world.World {
	t.Helper()
	w, e := world.New(program(""), nil)
	if e != api.OK {
		t.Fatalf("New: error %d", e)
	}
	w.Take(1)
	c, _ := w.Make(1, "main.C")
	w.Set(c, "n", number(5))
	w.Array(1, "Array[U32 val]", []api.Value{number(1), number(2)})
	w.Text(1, "abc")
	if a, e := w.Spawn("main.A"); e != api.OK || a.Lo != 2 {
		t.Fatalf("Spawn: error %d", e)
	}
	return w
}

// locals are those with which expressions are evaluated.
func locals() []meaning.Local {
	return []meaning.Local{{Name: "x", Value: number(5)}, {Name: "u", Value: api.Value{}}, {Name: "p", Value: tuple(number(1), truth(1))}, {Name: "c", Value: object(2)}, {Name: "l", Value: object(3)}, {Name: "s", Value: object(4)}, {Name: "a", Value: actor(2)}, {Name: "me", Value: actor(1)}}
}

// shown returns a short text of a value: numbers of U32 in digits, objects by their numbers.
func shown(v api.Value) string {
	switch v.Kind {
	case api.ValNone:
		return "-"
	case api.ValBool:
		return strconv.FormatBool(v.Lo == 1)
	case api.ValObject:
		return "#" + strconv.Itoa(int(v.Lo))
	case api.ValActor:
		return "@" + strconv.Itoa(int(v.Lo))
	case api.ValUnit:
		return v.Name
	case api.ValTuple:
		var l []string
		for _, k := range v.Kids {
			l = append(l, shown(k))
		}
		return "(" + strings.Join(l, ", ") + ")"
	}
	return strconv.Itoa(int(v.Lo))
}

// kinds are the names of outcomes.
var kinds = []string{"value", "error", "return", "break", "continue", "empty", "wrong"}

// brief returns the text of an outcome, without its locals: its kind, its value or its code, and how much fuel it used.
func brief(o meaning.Outcome) string {
	s := kinds[o.Kind]
	if o.Kind == meaning.Value || o.Kind == meaning.Return {
		s += " " + shown(o.Value)
	} else if o.Value.Kind != 0 || len(o.Value.Kids) > 0 {
		s += " with " + shown(o.Value)
	}
	if o.Code != api.OK {
		s += " " + strconv.Itoa(int(o.Code))
	}
	return s + ", " + strconv.Itoa(o.Used)
}

// changed returns the text of those of some locals that differ from the ones at the beginning.
func changed(l []meaning.Local) string {
	var out []string
	first := locals()
	for i, x := range l {
		if i >= len(first) || told(x) != told(first[i]) {
			out = append(out, x.Name+"="+shown(x.Value))
		}
	}
	return strings.Join(out, " ")
}
