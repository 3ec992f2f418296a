package names_test

import (
	"strings"
	"testing"

	"hackamore/api"
	"hackamore/names"
)

const counting = `use "lib/stack"

type Num is (U8 | U16)

interface Fn[A, B]
  fun apply(a: A): B

class Counter
  var n: USize = 0
  let step: USize
  new create(step': USize = 1) => step = step'
  fun ref up(by: USize = 1): USize => n = n + (by * step); n

actor Main
  let env: Env
  var total: USize = 0
  new create(env': Env) =>
    env = env'
    let c: Counter = Counter()
    go(c.up())
  be go(k: USize, c: {(USize): USize} val = {(x: USize): USize => x + 1 } val) =>
    let f: {(USize): USize} = {(y: USize): USize => c(y) + k }
    for i: USize in Range(0, k) do
      total = total + f(i)
    end
    let s: Stack[USize] ref = Stack[USize]()
    s.>push(1).>push(2)
    match try s.pop()? else None end
    | let u: USize if u > 1 => env.out.print("big")
    | None => env.out.print("none")
    else
      env.out.print((k + 1).string())
    end
`

const stack = `class Stack[A]
  let items: Array[A] ref = Array[A]()
  fun ref push(a: A) => items.push(consume a)
  fun ref pop(): A^ ? => items.pop()?
`

// TestWhole is P6.1 for a program that has much of the language, in two packages.
func TestWhole(t *testing.T) {
	p, e := names.Program(map[string]string{"main": counting, "lib/stack": stack}, nil)
	if e != api.OK || names.Check(p) != api.OK || len(p) != 35 {
		t.Fatalf("error %d, %d entities", e, len(p))
	}
	x, _ := names.Find(p, "main.Main")
	want := "(seq (let f <main._O3 ref> (new create <main._O4 ref> (local c) (local k))) (let _1 <Iterator[USize val] ref> (new create <Range ref> (lit 0 <USize val>) (local k))) " +
		"(while (call has_next (local _1)) (seq (let i <USize val> (try (call next (local _1)) (break) (unit <None val>))) (set total (this) (call add (get total (this)) (call apply (local f) (local i))))) (unit <None val>)) "
	if got := expr(x.Methods[1].Body); !strings.HasPrefix(got, want) {
		t.Errorf("the behaviour go: %s", got)
	}
	lambda, _ := names.Find(p, "main._O4")
	if want := " 2 apply  box[](y: USize val;) USize val (call add (call apply (get c (this)) (local y)) (get k (this)))"; !strings.HasSuffix(entity(lambda), want) {
		t.Errorf("the lambda: %s", entity(lambda))
	}
}
