package check_test

import (
	"slices"
	"strings"
	"testing"

	"hackamore/api"
	"hackamore/check"
	"hackamore/flow"
	"hackamore/notation"
)

// scene is a program to whose class methods are added.
const scene = `
	interface tag Any
	primitive val None
	primitive val Bool
	primitive val U32
	fun box add(y: U32 val): U32 val
	fun box add_partial(y: U32 val): U32 val ?
	actor tag main.A
	new tag create() => seq
	be tag go(x: main.C iso; y: U32 val) => seq
	be tag take(x: main.C val) => seq
	trait ref main.T
	fun ref p(): U32 val ?
	class ref main.C is main.T ref
	var c: (main.C ref | None val)
	var n: U32 val
	new ref create() => (seq (set.c this unit{None val}) (set.n this lit.0{U32 val}))
	new iso make() => (seq (set.c this (new.create{main.C ref})) (set.n this lit.0{U32 val}))
	new ref risk() ? => (seq (set.c this (new.create{main.C ref})) (set.n this lit.0{U32 val}) (if lit.true{Bool val} error -))
	fun ref p(): U32 val ? => (seq (if lit.true{Bool val} error -) lit.1{U32 val})
`

// bodied returns the scene, and the place of a method that is added to its class.
func bodied(text string) (p []api.Entity, entity, method int) {
	p = notation.Program(scene)
	entity = len(p) - 1
	p[entity].Methods = append(p[entity].Methods, notation.Method(text))
	return p, entity, len(p[entity].Methods) - 1
}

// body holds the types of a method's body, or its error and path, against those that are wanted.
func body(t *testing.T, text, want string, code api.Errno, at ...int) {
	t.Helper()
	p, i, j := bodied(text)
	b, f, e := check.Method(p, i, j)
	fault := check.Fault{Entity: i, Method: j, Path: at}
	if code == api.OK {
		fault = check.Fault{}
	}
	isFault(t, text, f, e, fault, code)
	if s := shownAll(b.Types); s != want {
		t.Errorf("%s: %s", text, s)
	}
	if code == api.OK && (b.Entity != i || b.Method != j) || code != api.OK && (b.Entity != 0 || b.Method != 0) {
		t.Errorf("%s: %v", text, b)
	}
	if _, _, e := check.Check(p); e != code {
		t.Errorf("Check of %s: error %d", text, e)
	}
}

// TestBodies is P13.1 and P13.2 for the types of bodies, in the order of the walk.
func TestBodies(t *testing.T) {
	for s, want := range map[string]string{
		"fun ref f(): U32 val => lit.1{U32 val}":                                                                          "U32 val",
		"fun ref f() => (if lit.true{Bool val} lit.1{U32 val} -)":                                                         "(None val | U32 val); Bool val; U32 val; 0",
		"fun ref f(x: main.C iso): main.C iso^ => consume.x":                                                              "main.C iso^",
		"fun ref f(x: main.C ref): U32 val => (seq (let.y{U32 val} (get.n local.x)) local.y)":                             "U32 val; None val; U32 val; main.C ref; U32 val",
		"fun ref f() => (try (call.p this) - -)":                                                                          "(None val | U32 val); U32 val; main.C ref; 0; 0",
		"fun ref f(): U32 val ? => (call.p this)":                                                                         "U32 val; main.C ref",
		"fun ref f(): main.C ref ? => new.risk{main.C ref}":                                                               "main.C ref",
		"fun ref f(): U32 val => (seq (return lit.2{U32 val}))":                                                           "0; 0; U32 val",
		"fun ref f(): main.C iso^ => (recover{this} (seq (var.x{main.C ref} new.create{main.C ref}) (assign.x local.x)))": "main.C iso^; main.C ref; None val; main.C ref; main.C ref; main.C ref",
		"fun ref f(): (U32 val | None val) => (seq var.x{U32 val} (assign.x lit.1{U32 val}) local.x)":                     "U32 val; None val; (None val | U32 val); U32 val; U32 val",
		"fun ref f(x: (main.C ref | None val)): U32 val => (match local.x (case.c{main.C ref} (is local.c this) (get.n local.c)) (case{Any tag} - lit.0{U32 val}))": "U32 val; (main.C ref | None val); U32 val; Bool val; main.C ref; main.C ref; U32 val; main.C ref; U32 val; 0; U32 val",
	} {
		body(t, s, want, api.OK)
	}
	body(t, "fun ref f(x: main.C iso): main.C tag => (call.add lit.1{U32 val} (seq local.x lit.2{U32 val}))", "", check.ErrResult)
	body(t, "fun ref f(): U32 val => (while lit.true{Bool val} (return lit.2{U32 val}) (return lit.3{U32 val}))", "", check.ErrResult)
}

// TestNoBody is P13.1 for methods without a body.
func TestNoBody(t *testing.T) {
	p := notation.Program(scene)
	p[3].Methods[0].Body = api.Expr{Text: "x", Kids: []api.Expr{{Op: 99}}}
	b, f, e := check.Method(p, 3, 0)
	isFault(t, "no body", f, e, check.Fault{}, api.OK)
	if b.Entity != 3 || b.Method != 0 || len(b.Types) > 0 {
		t.Errorf("no body: %v", b)
	}
	c, _, e := check.Check(p)
	if e != api.OK || slices.ContainsFunc(c.Bodies, func(b check.Body) bool { return b.Entity == 3 }) {
		t.Errorf("no body: error %d", e)
	}
}

// TestCase is P13.1 for what a case binds: looked at in its guard, given in its body, whatever its mark is.
func TestCase(t *testing.T) {
	body(t, "fun ref f(x: main.C iso): main.C iso^ => (match consume.x (case.c{main.C iso} (is local.c this) consume.c) (case.d{main.C iso^} - consume.d))",
		"main.C iso^; main.C iso^; main.C iso^; Bool val; main.C iso!; main.C ref; main.C iso^; main.C iso^; 0; main.C iso^", api.OK)
	body(t, "fun ref f(x: main.C iso) => (match consume.x (case.c{main.C iso^} (is local.c this) (seq local.c)) (case.d{main.C trn^} - local.d))",
		"(main.C iso! | main.C trn!); main.C iso^; main.C iso!; Bool val; main.C iso!; main.C ref; main.C iso!; main.C iso!; main.C trn!; 0; main.C trn!", api.OK)
	// In the guard no more than a further reference is there; what a case binds is no variable.
	body(t, "fun ref f(x: main.C iso) => (match consume.x (case.c{main.C iso} (seq (var.d{main.C iso} consume.c) lit.true{Bool val}) -))", "", api.ErrForm, 1)
	body(t, "fun ref f(x: main.C iso) => (match consume.x (case.c{main.C iso} (seq (var.d{main.C iso} consume.c) lit.true{Bool val}) seq))", "", check.ErrResult, 1, 0, 0)
	body(t, "fun ref f(x: main.C iso) => (match consume.x (case.c{main.C iso} - (seq (assign.c new.make{main.C ref}))))", "", check.ErrPlace, 1, 1, 0)
	// Behind the match it is not in another region, but has no value.
	body(t, "fun ref f(x: main.C ref) => (seq (match local.x (case.c{main.C ref} - seq)) local.c)", "", flow.ErrUnset, 1)
	// A variable of its guard with the same name is the one that counts in its body.
	body(t, "fun ref f(x: main.C ref): U32 val => (match local.x (case.c{main.C ref} (seq (let.c{U32 val} lit.1{U32 val}) lit.true{Bool val}) local.c))", "", check.ErrResult)
}

// TestScopes is P13.1 for the contexts of expressions: what was declared ahead, and the regions.
func TestScopes(t *testing.T) {
	for s, want := range map[string][]int{
		"fun ref f() => (seq local.x (let.x{U32 val} lit.1{U32 val}))":                                                 {0},
		"fun ref f() => (let.x{U32 val} local.x)":                                                                      {0},
		"fun ref f() => (seq (recover{this} (seq (let.x{U32 val} lit.1{U32 val}))) local.x)":                           {1},
		"fun ref f() => (seq (recover{this} (let.x{U32 val} lit.1{U32 val})) (recover{this} local.x))":                 {1, 0},
		"fun ref f() => (seq (recover{this} (recover{this} (let.x{U32 val} lit.1{U32 val}))) (recover{this} local.x))": {1, 0},
		"fun ref f() => (recover{this} (seq (recover{this} (let.x{U32 val} lit.1{U32 val})) local.x))":                 {0, 1},
		"fun ref f() => (assign.x (seq (var.x{U32 val} lit.1{U32 val}) lit.2{U32 val}))":                               {},
	} {
		body(t, s, "", api.ErrScope, want...)
	}
	body(t, "fun ref f(): main.C ref => (recover{this} (seq (let.x{main.C ref} new.create{main.C ref}) (recover{this} local.x)))", "", check.ErrSend, 0, 1, 0)
	body(t, "fun ref f(x: main.C ref): main.C iso^ => (recover{this} local.x)", "", check.ErrSend, 0)
	body(t, "fun ref f(): main.C iso^ => (recover{this} this)", "", check.ErrSend, 0)
	body(t, "fun ref f(x: main.C val): main.C val => (recover{this} local.x)", "main.C val; main.C val", api.OK)
	body(t, "fun ref f() => (seq (var.x{U32 val} lit.1{U32 val}) (recover{this} (assign.x lit.2{U32 val})))", "", check.ErrSend, 1, 0)
	// Of several with one name the last one counts.
	body(t, "fun ref f(): U32 val => (recover{this} (seq (if lit.true{Bool val} (let.x{Bool val} lit.true{Bool val}) (let.x{U32 val} lit.1{U32 val})) local.x))", "U32 val; U32 val; None val; Bool val; None val; Bool val; None val; U32 val; U32 val", api.OK)
	body(t, "fun ref f(): U32 val => (seq (let.x{main.C ref} this) (let.x{U32 val} (get.n local.x)) local.x)", "U32 val; None val; main.C ref; None val; U32 val; main.C ref; U32 val", api.OK)
	// The variable of a recover block is there in its inner ones, and in the branches behind.
	body(t, "fun ref f(): U32 val => (recover{this} (seq (if lit.true{Bool val} (seq var.x{U32 val} lit.1{U32 val}) (seq lit.1{U32 val})) (assign.x lit.2{U32 val}) (recover{this} local.x)))", "U32 val; U32 val; U32 val; Bool val; U32 val; None val; U32 val; U32 val; U32 val; (None val | U32 val); U32 val; U32 val; U32 val", api.OK)
}

// TestAlways is P13.1 for variables that need not have a value when they are assigned.
func TestAlways(t *testing.T) {
	for s, want := range map[string]string{
		"fun ref f() => (seq (var.x{U32 val} lit.1{U32 val}) (assign.x lit.2{U32 val}))":                                           "U32 val",
		"fun ref f() => (seq (var.x{U32 val} lit.1{U32 val}) (assign.x lit.2{U32 val}) consume.x)":                                 "(None val | U32 val)",
		"fun ref f() => (seq var.x{U32 val} (assign.x lit.2{U32 val}) lit.1{U32 val})":                                             "(None val | U32 val)",
		"fun ref f() => (seq (var.x{U32 val} lit.1{U32 val}) (assign.x lit.2{U32 val}) (var.y{U32 val} lit.1{U32 val}) consume.y)": "U32 val",
	} {
		p, i, j := bodied(s)
		b, f, e := check.Method(p, i, j)
		if e != api.OK {
			t.Errorf("%s: error %d at %v", s, e, f)
			continue
		}
		at := 3
		if strings.HasPrefix(s, "fun ref f() => (seq var") {
			at = 2
		}
		if got := shown(b.Types[at]); got != want {
			t.Errorf("%s: %s", s, got)
		}
	}
}

// TestFaults is P13.1 for the order of a method's errors.
func TestFaults(t *testing.T) {
	// The error of Begin ahead of that of Shape, this ahead of those of Rule, these in the order in which types are found.
	p, i, j := bodied("fun tag f(x: (this -> main.C ref)) => (seq this.y)")
	_, f, e := check.Method(p, i, j)
	isFault(t, "Begin", f, e, at(i, j), api.ErrCap)
	body(t, "fun ref f() => (seq local.y (seq this.y))", "", api.ErrForm, 1, 0)
	body(t, "fun ref f() => (seq (get.y local.y) local.z)", "", api.ErrScope, 0, 0)
	body(t, "fun ref f() => (seq (get.y this) local.z)", "", api.ErrNone, 0)
	body(t, "fun ref f() => (item.0 (seq this local.z))", "", api.ErrScope, 0, 1)
	body(t, "fun ref f(): Bool val => (if lit.1{U32 val} local.x -)", "", api.ErrScope, 1)
	body(t, "fun ref f(): Bool val => (if lit.1{U32 val} this -)", "", api.ErrType)
	// ErrResult ahead of the flow.
	body(t, "fun ref f(): Bool val => (seq error lit.1{U32 val})", "", check.ErrResult)
	body(t, "fun ref f(): Bool val => (seq error lit.true{Bool val})", "", flow.ErrPartial, 0)
	body(t, "fun ref f(): Bool val ? => (seq error lit.true{Bool val})", "", flow.ErrDead, 1)
	body(t, "fun ref f(): Bool val ? => lit.true{Bool val}", "", flow.ErrPartial)
	body(t, "fun ref f(): Bool val => (seq (seq break) (return lit.true{Bool val}))", "", flow.ErrLoop, 0, 0)
	body(t, "new ref f() => seq", "", flow.ErrField)
	body(t, "new ref f(): U32 val => (seq (set.c this new.create{main.C ref}) (set.n this lit.1{U32 val}) (set.n this (seq lit.1{U32 val})))", "(None val | U32 val); (None val | main.C ref); main.C ref; main.C ref; (None val | U32 val); main.C ref; U32 val; (None val | U32 val); main.C ref; U32 val; U32 val", api.OK)
	// Calls and constructions of partial methods.
	body(t, "fun ref f() => (call.p this)", "", flow.ErrPartial)
	body(t, "fun ref f() => (seq (try (call.p this) - -) (call.p this))", "", flow.ErrPartial, 1)
	body(t, "fun ref f(x: main.T ref): U32 val => (call.add (call.p local.x) lit.1{U32 val})", "", flow.ErrPartial, 0)
	body(t, "fun ref f(): main.C ref => new.risk{main.C ref}", "", flow.ErrPartial)
	body(t, "fun ref f(): main.C ref => (call.risk this)", "", check.ErrPlace)
	body(t, "fun ref f(x: U32 val): U32 val => (call.add_partial local.x local.x)", "", flow.ErrPartial)
	body(t, "fun ref f(x: U32 val): U32 val ? => (call.add_partial local.x local.x)", "U32 val; U32 val; U32 val", api.OK)
	body(t, "fun ref f(x: U32 val): U32 val ? => (call.add local.x local.x)", "", flow.ErrPartial)
	// The result is that of a receiver without a mark.
	body(t, "fun iso f(x: this): this => local.x", "", check.ErrResult)
	body(t, "fun iso f(x: this): this => consume.x", "this iso^", api.OK)
	// What layer 11 takes for no form.
	p, i, j = bodied("fun ref f() => (if lit.true{Bool val} this -)")
	p[i].Methods[j].Body.Kids[2].Text = "x"
	_, f, e = check.Method(p, i, j)
	isFault(t, "none with a Text", f, e, at(i, j), api.ErrForm)
	// The error of the result.
	p, i, j = bodied("fun tag f(): (this -> main.C ref) => error")
	_, f, e = check.Method(p, i, j)
	isFault(t, "a result with an error", f, e, at(i, j), check.ErrResult)
}

// TestOrderOfFaults: Check returns the first error of all, entity by entity and method by method.
func TestOrderOfFaults(t *testing.T) {
	p := notation.Program(scene)
	p = append(p, notation.Program("class ref main.D\nnew ref create() => local.x\nfun box f(): U32 val => lit.true{Bool val}\nclass ref main.E\nfun box f() => local.x")...)
	_, f, e := check.Check(p)
	isFault(t, "the first one", f, e, check.Fault{Entity: 7, Method: 0}, api.ErrScope)
	p[7].Methods[0].Body = notation.Expr("seq")
	_, f, e = check.Check(p)
	isFault(t, "the second one", f, e, check.Fault{Entity: 7, Method: 1}, check.ErrResult)
	p[8].Methods[0].Kind = 0
	_, f, e = check.Check(p)
	isFault(t, "that of Program", f, e, check.Fault{Entity: 8, Method: 0}, api.ErrForm)
	p = notation.Program(scene)
	c, f, e := check.Check(p)
	isFault(t, "none", f, e, check.Fault{}, api.OK)
	var got [][2]int
	for _, b := range c.Bodies {
		got = append(got, [2]int{b.Entity, b.Method})
	}
	if !slices.Equal(got, [][2]int{{4, 0}, {4, 1}, {4, 2}, {6, 0}, {6, 1}, {6, 2}, {6, 3}}) {
		t.Errorf("bodies %v", got)
	}
	c, f, e = check.Check(nil)
	isFault(t, "no program", f, e, check.Fault{}, api.OK)
	if len(c.Bodies) > 0 {
		t.Error("bodies of no program")
	}
}

// TestLargeBodies is P13.1 for bodies at the limits of sizes.
func TestLargeBodies(t *testing.T) {
	p, i, j := bodied("fun ref f() => seq")
	m := &p[i].Methods[j]
	m.Body = api.Expr{Op: api.OpSeq, Kids: slices.Repeat([]api.Expr{notation.Expr("(call.add lit.1{U32 val} lit.2{U32 val})")}, 1333)}
	b, f, e := check.Method(p, i, j)
	isFault(t, "4000 nodes", f, e, check.Fault{}, api.OK)
	if len(b.Types) != 4000 {
		t.Errorf("%d types", len(b.Types))
	}
	m.Body.Kids = append(m.Body.Kids, notation.Expr("local.x"))
	_, f, e = check.Method(p, i, j)
	isFault(t, "4001 nodes", f, e, at(i, j), api.ErrSize)
	m.Body = nested(100, notation.Expr("local.x"))
	_, f, e = check.Method(p, i, j)
	isFault(t, "a depth of 100", f, e, check.Fault{Entity: i, Method: j, Path: make([]int, 99)}, api.ErrScope)
	m.Body = nested(101, notation.Expr("local.x"))
	_, f, e = check.Method(p, i, j)
	isFault(t, "a depth of 101", f, e, at(i, j), api.ErrSize)
	m.Body = nested(60000, notation.Expr("consume.x"))
	_, f, e = check.Method(p, i, j)
	isFault(t, "a depth of 60000", f, e, at(i, j), api.ErrSize)
	m.Body = api.Expr{Op: api.OpSeq}
	for range 1333 { // many variables, and many calls of a large method
		m.Body.Kids = append(m.Body.Kids, notation.Expr("(let.x{None val} (call.f this))"))
	}
	_, f, e = check.Method(p, i, j)
	isFault(t, "many calls", f, e, check.Fault{}, api.OK)
}
