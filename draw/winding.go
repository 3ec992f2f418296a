package draw

import (
	"strconv"

	"hackamore/api"
	"hackamore/notation"
)

// windingProgram is what programs of winding bodies have beside builtin entities.
const windingProgram = `
	class ref main.C
	var n: U32 val
	new ref create(n: U32 val) ? => (seq (set.n this local.n) (if (call.lt lit.5{U32 val} local.n) error -))
	fun box get(): U32 val => (get.n this)
	fun ref go(x: U32 val): U32 val => (set.n this local.x)
	actor tag main.A
	var n: U32 val
	new tag create(n: U32 val) => (set.n this local.n)
	be tag go(x: U32 val) => (set.n this local.x)
	actor tag main.B is main.D ref
	var n: U32 val
	new tag create(n: U32 val) => (set.n this local.n)
	trait ref main.D
	be tag go(x: U32 val) => (set.n this (call.add local.x local.x))
	actor tag main.Main
	var r: (U32 val | None val)
	var out: Out tag
	new tag create(env: Env val) => (seq (set.out this (get.out local.env)) (try (set.r this (call.wind this lit.1{U32 val} lit.2{U32 val})) (call.say this lit.99{U32 val}) -))
	fun ref wind(x: U32 val; y: U32 val): (U32 val | None val) ?
	fun box say(n: U32 val): None val => (call.print (get.out this) (call.string local.n))
	fun box some(n: U32 val): U32 val ? => (if (call.lt local.n lit.3{U32 val}) local.n error)
`

// winding draws expressions that are left in many ways.
type winding struct {
	*Maker
	loops, names int
}

// Winding returns a program with a body that no checker has seen, which loops, returns, and raises and catches errors. Most of what it
// does can be done, so that many of its runs rest.
func (m *Maker) Winding() []api.Entity {
	p := notation.Program(builtin + windingProgram)
	d := &winding{Maker: m}
	main := &p[len(p)-1]
	for i := range main.Methods {
		if main.Methods[i].Name == "wind" {
			main.Methods[i].Body = of(api.OpSeq, "", notation.Expr("(var.z{Any tag} lit.3{U32 val})"), d.expr(6))
		}
	}
	return p
}

func (d *winding) number() api.Expr {
	return typed(api.OpLit, strconv.Itoa(d.Below(9)), notation.Type("U32 val"))
}

func (d *winding) variable() string { return One(d.Maker, "x", "y", "z") }

func (d *winding) name() string {
	d.names++
	return "k" + strconv.Itoa(d.names)
}

// truth returns a condition.
func (d *winding) truth(depth int) api.Expr {
	switch d.Below(6) {
	case 0:
		return typed(api.OpLit, One(d.Maker, "true", "false"), boolean)
	case 1, 2:
		return of(api.OpIs, "", of(api.OpLocal, d.variable()), d.number())
	case 3:
		return of(api.OpSeq, "", d.expr(depth-1), of(api.OpIs, "", of(api.OpLocal, d.variable()), d.expr(depth-1)))
	case 4:
		return of(api.OpIf, "", d.truth(depth-1), d.truth(depth-2), d.truth(depth-2))
	}
	return of(api.OpCall, "lt", d.number(), d.number())
}

// maybe returns an expression, or none.
func (d *winding) maybe(depth int) api.Expr {
	if d.Below(2) == 0 {
		return api.Expr{}
	}
	return d.expr(depth)
}

func (d *winding) expr(depth int) api.Expr {
	if depth <= 0 {
		return d.leaf()
	}
	switch d.Below(18) {
	case 0, 1, 2:
		x := of(api.OpSeq, "")
		for range d.Below(4) {
			x.Kids = append(x.Kids, d.expr(depth-1))
		}
		return x
	case 3, 4:
		return of(api.OpIf, "", d.truth(depth), d.expr(depth-1), d.maybe(depth-1))
	case 5, 6:
		return d.loop(depth)
	case 7, 8, 9, 10:
		return of(api.OpTry, "", d.expr(depth-1), d.maybe(depth-1), d.maybe(depth-1))
	case 11:
		return d.match(depth)
	case 12:
		return of(api.OpAssign, d.variable(), d.expr(depth-1))
	case 13:
		return of(api.OpReturn, "", d.expr(depth-1))
	case 14:
		return of(api.OpItem, One(d.Maker, "0", "01"), of(api.OpTuple, "", d.expr(depth-1), d.expr(depth-1)))
	case 15:
		return d.called(depth)
	}
	return d.leaf()
}

// loop returns a loop that ends, unless it goes on with its condition ahead of its count.
func (d *winding) loop(depth int) api.Expr {
	k := d.name()
	d.loops++
	count := of(api.OpAssign, k, of(api.OpCall, "add", of(api.OpLocal, k), notation.Expr("lit.1{U32 val}")))
	condition := of(api.OpCall, "lt", of(api.OpLocal, k), d.number())
	if d.Below(3) == 0 {
		condition = of(api.OpSeq, "", count, d.expr(depth-2), condition)
	}
	body := of(api.OpSeq, "", count, d.expr(depth-1))
	d.loops--
	return of(api.OpSeq, "", typed(api.OpVar, k, notation.Type("U32 val"), notation.Expr("lit.0{U32 val}")), of(api.OpWhile, "", condition, body, d.maybe(depth-1)))
}

func (d *winding) match(depth int) api.Expr {
	x := of(api.OpMatch, "", d.expr(depth-1))
	for range d.Below(3) {
		t := notation.Type(One(d.Maker, "U32 val", "None val", "(U32 val | None val)", "(U32 val, U32 val)", "Any tag"))
		c := typed(api.OpCase, One(d.Maker, "", d.variable()), t, api.Expr{}, d.expr(depth-1))
		if d.Below(3) == 0 {
			c.Kids[0] = d.truth(depth - 1)
		}
		x.Kids = append(x.Kids, c)
	}
	return x
}

// called returns a call of a method, many of which may raise an error.
func (d *winding) called(depth int) api.Expr {
	switch d.Below(5) {
	case 0:
		return of(api.OpCall, "some", of(api.OpThis, ""), d.number())
	case 1:
		return of(api.OpCall, "add_partial", of(api.OpCall, "sub", d.number(), d.number()), d.number())
	case 2:
		return of(api.OpCall, "get", typed(api.OpNew, "create", notation.Type("main.C ref"), d.number()))
	case 3:
		made := notation.Type(One(d.Maker, "main.C ref", "main.A tag", "main.B tag"))
		return of(api.OpCall, "go", of(api.OpIf, "", d.truth(depth-1), typed(api.OpNew, "create", made, d.number()), notation.Expr("(new.create{main.A tag} lit.4{U32 val})")), d.number())
	}
	return of(api.OpCall, "say", of(api.OpThis, ""), of(api.OpCall, "add", d.number(), d.number()))
}

func (d *winding) leaf() api.Expr {
	switch d.Below(12) {
	case 0, 1:
		return of(api.OpError, "")
	case 2, 3:
		if d.loops > 0 {
			return of(One(d.Maker, api.OpBreak, api.OpContinue), "")
		}
	case 4:
		return of(api.OpReturn, "")
	case 5:
		x := d.variable()
		return of(api.OpAssign, x, of(api.OpSeq, "", of(api.OpConsume, x), d.number()))
	case 6:
		return of(api.OpCall, "say", of(api.OpThis, ""), d.number())
	case 7, 8:
		return of(api.OpLocal, d.variable())
	case 9:
		return nothing()
	}
	return d.number()
}
