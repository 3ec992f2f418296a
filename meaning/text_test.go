package meaning_test

import (
	"strings"
	"testing"

	"hackamore/api"
	"hackamore/check"
	"hackamore/draw"
	"hackamore/generic"
	"hackamore/meaning"
	"hackamore/names"
	"hackamore/world"
)

// reified returns the program that the main actor of a text needs, which the checker takes.
func reified(t *testing.T, text string) []api.Entity {
	t.Helper()
	p, e := names.Program(map[string]string{"main": text}, nil)
	if e != api.OK {
		t.Fatalf("names: error %d", e)
	}
	p, e = generic.Reify(p, "main.Main")
	if e != api.OK {
		t.Fatalf("generic: error %d", e)
	}
	if _, f, e := check.Check(p); e != api.OK {
		t.Fatalf("check: error %d at %v of %s", e, f, p[f.Entity].Name)
	}
	return p
}

// ring is a program whose actors hand on an iso, and share a val.
const ring = `
class Box
  var n: U32 = U32(0)
  var last: (Box | None) = None
  fun ref grow(x: U32): None =>
    n = n + x
    let b: Box = Box()
    b.n = x
    last = b
  fun sum(): U32 =>
    match last
    | let b: Box box => n + b.n
    else n end
class Log
  let lines: Array[String val] = Array[String val]()
  fun ref add(s: String): None => lines.push(s)
  fun all(): String =>
    var s: String = ""
    var i: USize = 0
    while i < lines.size() do
      s = s + try lines(i)? else "?" end
      i = i + 1
    end
    s
actor Hand
  let _out: Out
  let _number: U32
  var _next: (Hand | None) = None
  new create(out: Out, number: U32) =>
    _out = out
    _number = number
  be to(next: Hand) => _next = next
  be take(b: Box iso, left: U32, l: Log val) =>
    let k: U32 = _number
    let d: Box iso = recover iso
      let r: Box ref = consume b
      r.grow(k)
      r
    end
    if left == U32(0) then
      let c: Box val = consume d
      show(c, l)
      match _next
      | let h: Hand => h.show(c, l)
      end
    else
      match _next
      | let h: Hand => h.take(consume d, left - U32(1), l)
      end
    end
  be show(b: Box val, l: Log val) => _out.print(l.all() + b.n.string() + " " + b.sum().string())
actor Main
  new create(env: Env) =>
    let a: Hand = Hand(env.out, U32(1))
    let b: Hand = Hand(env.out, U32(2))
    let c: Hand = Hand(env.out, U32(3))
    a.to(b)
    b.to(c)
    c.to(a)
    let l: Log val = recover val
      let m: Log ref = Log()
      m.add("sum")
      m.add(" ")
      m
    end
    a.take(recover iso Box() end, U32(7), l)
    env.out.print(if env.args.size() > 1 then "many" else "few" end)
`

// written is a program with what the front rewrites: generic classes, provided methods, loops, lambdas and patterns.
const written = `trait Shape
  fun area(): U64
  fun name(): String => "shape"
class Square is Shape
  let _side: U64
  new create(side: U64) => _side = side
  fun area(): U64 => _side * _side
class Circle is Shape
  let _r: U64
  new create(r: U64) => _r = r
  fun area(): U64 => (_r * _r) * U64(3)
  fun name(): String => "circle"
class Pair[A: Any #any, B: Any #any]
  var a: A
  var b: B
  new create(a': A, b': B) =>
    a = consume a'
    b = consume b'
  fun ref swap(x: A): A^ => a = consume x
primitive Maths
  fun fact(n: U64): U64 => if n == U64(0) then U64(1) else n * fact(n - U64(1)) end
  fun half(n: U64): U64 ? => if (n % U64(2)) == U64(1) then error else n / U64(2) end
actor Main
  new create(env: Env) =>
    let shapes: Array[Shape ref] = Array[Shape ref]()
    shapes.push(Square(U64(3)))
    shapes.push(Circle(U64(2)))
    for i: USize in Range(0, shapes.size()) do
      try
        let s: Shape ref = shapes(i)?
        env.out.print(s.name() + " " + s.area().string())
      end
    end
    env.out.print(Maths.fact(U64(10)).string())
    env.out.print(try Maths.half(U64(3))?.string() else "odd" end)
    env.out.print(try Maths.half(U64(4))?.string() else "odd" end)
    let p: Pair[U64 val, String val] = Pair[U64 val, String val](U64(1), "x")
    env.out.print(p.swap(U64(7)).string() + p.b + p.a.string())
    let add: {(U64, U64): U64} val = {(x: U64, y: U64): U64 => x + y} val
    env.out.print(add(U64(2), U64(3)).string())
    var k: USize = 0
    let last: (USize | None) = while k < 5 do
      k = k + 1
      if k == 3 then continue end
      k * 10
    end
    match last
    | let m: USize => env.out.print(m.string())
    | None => env.out.print("none")
    end
    (let q: U64, let r: String) = (U64(9), "nine")
    env.out.print(r + q.string())
`

// TestWritten is P18.1 for what a program of texts prints.
func TestWritten(t *testing.T) {
	s, end := meaning.Run(reified(t, written), nil, nil, 10000)
	want := "shape 9|circle 12|3628800|odd|2|1x7|5|50|nine9"
	if got := strings.Join(s.Output, "|"); got != want || end != (meaning.End{Kind: meaning.Rest, Actor: -1}) {
		t.Errorf("it ends by %v, and prints %s", end, got)
	}
}

// TestHi is the document's example of a program that prints hi, with one send.
func TestHi(t *testing.T) {
	s, end := meaning.Run(reified(t, "actor Main\n  new create(env: Env) => env.out.print(\"hi\")"), nil, nil, 100)
	if end != (meaning.End{Kind: meaning.Rest, Actor: -1}) || told(s.Output) != told([]string{"hi"}) || told(s.Trace) != told([]api.Send{{From: 1, To: 0, Name: "print", Args: []string{`"hi"#0`}}}) {
		t.Errorf("it ends by %v, prints %q and sends %v", end, s.Output, s.Trace)
	}
}

// TestRing is P18.6 for a program whose actors hand on an iso, by many scripts: there is no race after any step, and the sums are right.
func TestRing(t *testing.T) {
	p := reified(t, ring)
	for seed := range uint64(60) {
		m := draw.New(seed)
		w, e := world.New(p, []string{"x", "y"}[:m.Below(3)])
		if e != api.OK {
			t.Fatalf("New: error %d", e)
		}
		paths := 0
		for {
			_, end, ok := meaning.Step(w, m.Below(100), 10000)
			if !ok {
				break
			}
			if end.Kind != meaning.Rest {
				t.Fatalf("seed %d: a step ends by %v", seed, end)
			}
			if a, b, race := w.Race(); race {
				t.Fatalf("seed %d: %v and %v in %s", seed, a, b, w.Dump())
			}
			paths += len(w.Paths())
		}
		out := strings.Join(w.State().Output, ",")
		if strings.Count(out, "sum 15 17") != 2 || strings.Count(out, "few")+strings.Count(out, "many") != 1 || paths < 20 {
			t.Errorf("seed %d: it prints %s, with %d paths", seed, out, paths)
		}
	}
}

// TestRaces holds that races are found where a program that the checker would not take makes one.
func TestRaces(t *testing.T) {
	p := program(`
	actor tag main.R
	var c: main.C ref
	new tag create(c: main.C ref) => (set.c this local.c)
	actor tag main.V
	var c: main.C box
	new tag create(c: main.C box) => (set.c this local.c)
`)
	for i := range p {
		if p[i].Name == "main.Main" {
			p[i].Methods[0].Body = api.Expr{}
		}
	}
	w, _ := world.New(p, nil)
	c, _ := w.Make(1, "main.C")
	for _, name := range []string{"main.V", "main.R"} {
		a, _ := w.Spawn(name)
		w.Send(api.Message{From: 1, To: int(a.Lo), Name: "create", Args: []api.Value{c}})
	}
	w.Take(1)
	for range 2 {
		meaning.Step(w, 0, 100)
		if _, _, ok := w.Race(); !ok {
			t.Errorf("there is no race in %s", w.Dump())
		}
	}
}
