package check_test

import (
	"testing"

	"hackamore/api"
	"hackamore/check"
	"hackamore/flow"
	"hackamore/generic"
	"hackamore/names"
)

// reified returns the program that the main actor of a text needs.
func reified(t *testing.T, text string) []api.Entity {
	t.Helper()
	p, e := names.Program(map[string]string{"main": text}, nil)
	if e != api.OK {
		t.Fatalf("%s: names: error %d", text, e)
	}
	p, e = generic.Reify(p, "main.Main")
	if e != api.OK {
		t.Fatalf("%s: generic: error %d", text, e)
	}
	return p
}

// written is a module behind whose main actor's constructor a body is put.
const written = `
class Cell
  var v: U32
  var next: (Cell | None) = None
  new create(x: U32) => v = x
  fun get(): U32 => v
  fun ref set(x: U32): U32 => v = x
  fun risk(): U32 ? => if v == U32(0) then error else v end
class Pair[A: Any #any, B: Any #any]
  var a: A
  var b: B
  new create(a': A, b': B) =>
    a = consume a'
    b = consume b'
  fun first(): this->A! => a
  fun ref swap(x: A): A^ => a = consume x
interface Named
  fun name(): String
trait Shape
  fun area(): U64
  fun name(): String => "shape"
class Square is Shape
  let _side: U64
  new create(side: U64) => _side = side
  fun area(): U64 => _side * _side
class Circle is Shape
  let _r: U64
  new create(r: U64) => _r = r
  fun area(): U64 => (_r * _r) * U64(3)
  fun name(): String => "circle"
primitive Red
  fun name(): String => "red"
actor Other
  let _out: Out
  var count: USize = 0
  new create(out: Out) => _out = out
  be take(c: Cell iso) =>
    let d: Cell ref = consume c
    d.set(U32(3))
    count = count + 1
    _out.print(d.get().string())
  be look(c: Cell val) => _out.print(c.get().string())
class Closing
  fun dispose(): None => None
actor Main
  let _out: Out
  new create(env: Env) =>
    _out = env.out
    let cell: Cell = Cell(U32(1))
    let fixed: Cell val = recover val Cell(U32(2)) end
    let other: Other = Other(env.out)
    `

// TestTexts is P13.1 and P13.4 for texts, from their reading on.
func TestTexts(t *testing.T) {
	for text, want := range map[string]api.Errno{
		`env.out.print("hi")`: api.OK, `cell.v = U32(2)`: api.OK, `fixed.v = U32(2)`: check.ErrView, `let b: Cell box = cell; b.set(U32(1))`: check.ErrView, `let b: Cell box = cell; env.out.print(b.get().string())`: api.OK,
		`other.take(recover Cell(U32(1)) end)`: api.OK, `other.take(cell)`: check.ErrArgs, `other.look(fixed)`: api.OK, `other.look(cell)`: check.ErrArgs, `let c: Cell iso = recover Cell(U32(1)) end; other.take(c)`: check.ErrArgs, `let c: Cell iso = recover Cell(U32(1)) end; other.take(consume c)`: api.OK,
		`let c: Cell iso = recover Cell(U32(1)) end; other.take(consume c); c.get()`: check.ErrView, `let c: Cell iso = recover Cell(U32(1)) end; other.take(consume c); let d: Cell tag = c`: flow.ErrUnset, `let c: Cell val = recover val Cell(U32(1)) end; other.look(c); other.look(c)`: api.OK, `let c: Cell val = recover Cell(U32(1)) end`: check.ErrResult,
		`let c: Cell iso = recover let d: Cell = Cell(U32(1)); d.next = cell; consume d end`: check.ErrSend, `let c: Cell iso = recover let d: Cell = Cell(U32(1)); d.next = Cell(U32(2)); consume d end`: api.OK, `let d: Cell = Cell(U32(1)); let c: Cell iso = consume d`: check.ErrResult,
		`let n: U32 = cell.risk()?`: flow.ErrPartial, `let n: U32 = try cell.risk()? else U32(0) end`: api.OK, `let n: U32 = try cell.get() else U32(0) end`: api.OK, `let n: U32 = cell.get() + 1`: check.ErrArgs, `let n: U32 = cell.get() + U32(1)`: api.OK, `let n: U64 = cell.get()`: check.ErrResult,
		`match cell.next | let c: Cell => c.set(U32(4)) | None => None end`: api.OK, `let u: U32 = match cell.next | let c: Cell => c.v | None => U32(0) end`: api.OK, `let u: U32 = match cell.next | let c: Cell => c.v end`: check.ErrResult, `let u: U32 = match cell.next | let c: Cell if c.v == U32(1) => c.v | None => U32(0) end`: check.ErrResult,
		`let b: (Cell box | None) = cell; match b | let c: Cell => c.set(U32(4)) end`: check.ErrCases, `let b: (Cell box | None) = cell; match b | let c: Cell box => None end`: api.OK, `try (cell.next as Cell).set(U32(1)) end`: api.OK,
		`for i: USize in Range(0, 3) do env.out.print(i.string()) end`: api.OK, `var i: USize = 0; while i < 3 do i = i + 1 end`: api.OK, `let i: USize = 0; while i < 3 do i = i + 1 end`: flow.ErrSet, `while U32(1) do None end`: api.ErrType, `break`: flow.ErrLoop, `return; cell.get()`: flow.ErrDead,
		`let p: Pair[U32, String] = Pair[U32, String](U32(1), "a"); let n: U32 = p.first(); let o: U32 = p.swap(U32(3))`: api.OK, `let p: Pair[Cell, String] val = recover val Pair[Cell, String](Cell(U32(1)), "a") end; let c: Cell val = p.first()`: check.ErrResult, `let p: Pair[Cell, String] box = Pair[Cell, String](cell, "a"); let c: Cell box = p.first(); let d: Cell = p.first()`: check.ErrResult,
		`let s: Array[Shape] = [as Shape: Square(U64(2)); Circle(U64(3))]; try env.out.print(s(0)?.name() + s(1)?.area().string()) end`: api.OK, `let s: Array[Shape] box = [as Shape: Square(U64(2))]; s.push(Square(U64(1)))`: check.ErrView, `let s: Array[Shape] = Array[Shape](); s.push(Red)`: check.ErrArgs, `let n: Named val = Red; env.out.print(n.name())`: api.OK, `let n: Named box = Square(U64(2)); env.out.print(n.name())`: api.OK, `let n: Named box = cell`: check.ErrResult,
		`let f: {(U32): U32} val = {(x: U32): U32 => x + U32(1)} val; env.out.print(f(U32(3)).string())`: api.OK, `let f: {(U32): U32} = {(x: U32): U32 => x + cell.get()}; f(U32(1))`: api.OK, `let f: {(U32): U32} val = {(x: U32)(c: Cell = cell): U32 => x + c.get()} val`: check.ErrSend, `let o: Named ref = object fun name(): String => "o" end; o.name()`: api.OK, `let g: {(): U32} = recover {(): U32 => cell.get()} end`: check.ErrSend,
		`with d: Closing = Closing() do env.out.print("in") end`: api.OK, `let t: (U32, Cell) = (U32(1), cell); t._2.set(t._1)`: api.OK, `let t: (U32, Cell) = (U32(1), fixed)`: check.ErrResult, `(let a: U32, let b: Cell) = (U32(1), cell); b.set(a)`: api.OK, `match (U32(1), cell) | (let a: U32, let b: Cell) => b.set(a) end`: api.OK, `match (U32(1), fixed) | (let a: U32, let b: Cell) => b.set(a) end`: check.ErrCases,
		`cell.get`: api.ErrNone, `cell.none()`: api.ErrNone, `env.out = env.out`: check.ErrPlace, `_out = env.out`: flow.ErrSet, `let z: Bool = cell is fixed`: api.OK, `recover cell end`: check.ErrSend, `recover val fixed end`: api.OK, `recover fixed end`: check.ErrSend,
	} {
		p := reified(t, written+text)
		_, f, e := check.Check(p)
		if e != want {
			t.Errorf("%s: error %d at %v of %s, want %d", text, e, f, p[f.Entity].Name, want)
		}
	}
}
