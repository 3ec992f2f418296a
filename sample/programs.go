package sample

// Ring is a program whose actors hand on an iso, and share a val.
const Ring = `
class Box
  var n: U32 = U32(0)
  var last: (Box | None) = None
  fun ref grow(x: U32): None =>
    n = n + x
    let b: Box = Box()
    b.n = x
    last = b
  fun sum(): U32 =>
    match last
    | let b: Box box => n + b.n
    else n end
class Log
  let lines: Array[String val] = Array[String val]()
  fun ref add(s: String): None => lines.push(s)
  fun all(): String =>
    var s: String = ""
    var i: USize = 0
    while i < lines.size() do
      s = s + try lines(i)? else "?" end
      i = i + 1
    end
    s
actor Hand
  let _out: Out
  let _number: U32
  var _next: (Hand | None) = None
  new create(out: Out, number: U32) =>
    _out = out
    _number = number
  be to(next: Hand) => _next = next
  be take(b: Box iso, left: U32, l: Log val) =>
    let k: U32 = _number
    let d: Box iso = recover iso
      let r: Box ref = consume b
      r.grow(k)
      r
    end
    if left == U32(0) then
      let c: Box val = consume d
      show(c, l)
      match _next
      | let h: Hand => h.show(c, l)
      end
    else
      match _next
      | let h: Hand => h.take(consume d, left - U32(1), l)
      end
    end
  be show(b: Box val, l: Log val) => _out.print(l.all() + b.n.string() + " " + b.sum().string())
actor Main
  new create(env: Env) =>
    let a: Hand = Hand(env.out, U32(1))
    let b: Hand = Hand(env.out, U32(2))
    let c: Hand = Hand(env.out, U32(3))
    a.to(b)
    b.to(c)
    c.to(a)
    let l: Log val = recover val
      let m: Log ref = Log()
      m.add("sum")
      m.add(" ")
      m
    end
    a.take(recover iso Box() end, U32(7), l)
    env.out.print(if env.args.size() > 1 then "many" else "few" end)
`

// Written is a program with what the front rewrites: generic classes, provided methods, loops, lambdas and patterns.
const Written = `trait Shape
  fun area(): U64
  fun name(): String => "shape"
class Square is Shape
  let _side: U64
  new create(side: U64) => _side = side
  fun area(): U64 => _side * _side
class Circle is Shape
  let _r: U64
  new create(r: U64) => _r = r
  fun area(): U64 => (_r * _r) * U64(3)
  fun name(): String => "circle"
class Pair[A: Any #any, B: Any #any]
  var a: A
  var b: B
  new create(a': A, b': B) =>
    a = consume a'
    b = consume b'
  fun ref swap(x: A): A^ => a = consume x
primitive Maths
  fun fact(n: U64): U64 => if n == U64(0) then U64(1) else n * fact(n - U64(1)) end
  fun half(n: U64): U64 ? => if (n % U64(2)) == U64(1) then error else n / U64(2) end
actor Main
  new create(env: Env) =>
    let shapes: Array[Shape ref] = Array[Shape ref]()
    shapes.push(Square(U64(3)))
    shapes.push(Circle(U64(2)))
    for i: USize in Range(0, shapes.size()) do
      try
        let s: Shape ref = shapes(i)?
        env.out.print(s.name() + " " + s.area().string())
      end
    end
    env.out.print(Maths.fact(U64(10)).string())
    env.out.print(try Maths.half(U64(3))?.string() else "odd" end)
    env.out.print(try Maths.half(U64(4))?.string() else "odd" end)
    let p: Pair[U64 val, String val] = Pair[U64 val, String val](U64(1), "x")
    env.out.print(p.swap(U64(7)).string() + p.b + p.a.string())
    let add: {(U64, U64): U64} val = {(x: U64, y: U64): U64 => x + y} val
    env.out.print(add(U64(2), U64(3)).string())
    var k: USize = 0
    let last: (USize | None) = while k < 5 do
      k = k + 1
      if k == 3 then continue end
      k * 10
    end
    match last
    | let m: USize => env.out.print(m.string())
    | None => env.out.print("none")
    end
    (let q: U64, let r: String) = (U64(9), "nine")
    env.out.print(r + q.string())
`
