package names

import (
	"iter"
	"strings"

	"hackamore/api"
	"hackamore/num"
)

const builtinHead = `interface tag Any

interface box Stringable
  fun box string(): String val

interface ref Iterator[A: Any #any]
  fun ref has_next(): Bool val
  fun ref next(): A^ ?

primitive val None
  fun box string(): String val

primitive val Bool
  fun box eq(that: Bool val): Bool val
  fun box ne(that: Bool val): Bool val
  fun box op_and(that: Bool val): Bool val
  fun box op_or(that: Bool val): Bool val
  fun box op_xor(that: Bool val): Bool val
  fun box op_not(): Bool val
  fun box string(): String val
`

const builtinTail = `class val String
  fun box size(): USize val
  fun box apply(i: USize val): U8 val ?
  fun box add(that: String box): String val
  fun box eq(that: String box): Bool val
  fun box ne(that: String box): Bool val
  fun box lt(that: String box): Bool val
  fun box le(that: String box): Bool val
  fun box gt(that: String box): Bool val
  fun box ge(that: String box): Bool val
  fun box substring(from: USize val, to: USize val): String val
  fun box string(): String val

class ref Array[A: Any #any]
  new ref create()
  fun box size(): USize val
  fun box apply(i: USize val): this->A! ?
  fun ref update(i: USize val, value: A): A^ ?
  fun ref push(value: A): None val
  fun ref pop(): A^ ?

class ref Range
  var _at: USize val
  let _end: USize val
  new ref create(from: USize val, to: USize val) =>
    this._at = from
    this._end = to
    this
  fun ref has_next(): Bool val =>
    this._at.lt(this._end)
  fun ref next(): USize val ? =>
    if this._at.lt(this._end) then
      this._at = this._at.add(1)
    else
      error
    end

primitive val AmbientAuth

actor tag Out
  be tag print(text: String val)

class val Env
  let out: Out tag
  let args: Array[String val] val
  let root: AmbientAuth val
`

// Builtin returns the texts of the modules of the builtin package.
func Builtin() []string {
	l := []string{builtinHead}
	for x := range numbers() {
		l = append(l, numberText(x))
	}
	return append(l, builtinTail)
}

// numbers hands on the entities of the number types, in their order.
func numbers() iter.Seq[api.Entity] {
	return func(yield func(api.Entity) bool) {
		for _, typ := range num.Types() {
			if !yield(numberEntity(typ)) {
				return
			}
		}
	}
}

// numberEntity returns the entity of a number type, just as its text would be resolved, which takes longer.
func numberEntity(typ string) api.Entity {
	created := named(typ, api.Val)
	created.Mark = api.Ephemeral
	create := api.Method{Kind: api.New, Name: "create", Cap: api.Val, Params: []api.Param{{Name: "value", Type: named(typ, api.Val)}}, Result: created}
	x := api.Entity{Kind: api.Primitive, Name: typ, Cap: api.Val, Methods: []api.Method{create}}
	signatures, _ := num.Methods(typ)
	for _, s := range signatures {
		m := api.Method{Kind: api.Fun, Name: s.Name, Cap: api.Box, Result: named(s.Result, api.Val), Partial: s.Partial}
		for _, p := range s.Params {
			m.Params = append(m.Params, api.Param{Name: "that", Type: named(p, api.Val)})
		}
		x.Methods = append(x.Methods, m)
	}
	return x
}

// numberText returns the text of the entity of a number type.
func numberText(x api.Entity) string {
	var out strings.Builder
	out.WriteString("primitive val " + x.Name + "\n")
	for _, m := range x.Methods {
		head, tail := "  fun box ", "): "+m.Result.Name+" val"
		if m.Kind == api.New {
			head, tail = "  new val ", ")"
		}
		out.WriteString(head + m.Name + "(")
		for _, p := range m.Params {
			out.WriteString(p.Name + ": " + p.Type.Name + " val")
		}
		out.WriteString(tail)
		if m.Partial {
			out.WriteString(" ?")
		}
		out.WriteString("\n")
	}
	return out.String()
}
