package check_test

import (
	"slices"
	"strings"
	"testing"

	"hackamore/api"
	"hackamore/check"
	"hackamore/notation"
	"hackamore/types"
)

// units is a program with entities of all kinds.
const units = `
	interface tag Any
	primitive val None
	fun box string(): String val
	primitive val Bool
	primitive val U32
	new val create(value: U32 val)
	fun box add(y: U32 val): U32 val
	fun box raw()
	class val String
	class ref Array
	new ref create()
	fun box apply(i: U32 val): (this -> main.C ref) ?
	fun ref push(v: (this -> main.C ref)): None val
	fun box done(v: this): this!
	be tag none(v: U32 val)
	be tag far(v: (this -> main.C ref))
	actor tag Out
	trait ref main.T
	fun box m(x: U32 val): U32 val
	fun box given(): this
	be tag go(x: main.C iso)
	interface ref main.I
	fun box m(x: U32 val): U32 val
	fun box i(): U32 val
	class ref main.C is main.T ref
	var f: main.C ref
	var i: main.C iso
	var t: main.C trn
	var v: main.C val
	var b: main.C box
	var g: main.C tag
	let l: U32 val
	var u: (main.C iso | None val)
	new ref create(x: U32 val) => seq
	new iso make(x: main.C iso; y: (this -> main.C ref)) => seq
	new trn keep() => seq
	fun box m(x: U32 val): U32 val => local.x
	fun box i(): U32 val => lit.1{U32 val}
	fun ref r(x: main.C ref): main.C ref => local.x
	fun box a(x: (this -> main.C ref)): (this -> main.C ref) => local.x
	fun val w(): this! => this
	fun tag g() => seq
	fun iso o() => seq
	fun iso mine(v: this): this => local.v
	new iso like(v: this) => seq
	fun trn n() => seq
	actor tag main.A is main.T ref
	var f: main.C iso
	new tag create(x: main.C iso) => seq
	be tag go(x: main.C iso) => seq
	fun box m(x: U32 val): U32 val => local.x
	fun ref f(): U32 val => local.x
	primitive val main.P
	new val create() => seq
	fun box p(): (this -> main.C ref) => this
	fun box q(): None val => seq
	new val odd(y: (this -> main.C ref)) => seq
`

// locals reads local variables: each one its name, `!` if it is a parameter, `?` if it need not have a value, a colon, its type,
// and perhaps `@` and its region.
func locals(s string) []check.Local {
	var l []check.Local
	for part := range strings.SplitSeq(s, ";") {
		name, typ, ok := strings.Cut(strings.TrimSpace(part), ": ")
		if !ok {
			continue
		}
		var x check.Local
		typ, region, _ := strings.Cut(typ, "@")
		if region != "" {
			x.Region = int(region[0] - '0')
		}
		name, x.Param = strings.CutSuffix(name, "!")
		name, maybe := strings.CutSuffix(name, "?")
		x.Name, x.Always, x.Type = name, !maybe, notation.Type(typ)
		l = append(l, x)
	}
	return l
}

// place returns the context of a method, as `main.C.m`, with some local variables and regions.
func place(t *testing.T, p []api.Entity, method, vars string, regions ...int) check.Context {
	t.Helper()
	dot := strings.LastIndex(method, ".")
	i := slices.IndexFunc(p, func(x api.Entity) bool { return x.Name == method[:dot] })
	j := slices.IndexFunc(p[i].Methods, func(m api.Method) bool { return m.Name == method[dot+1:] })
	if j < 0 {
		t.Fatalf("no method %s", method)
	}
	return check.Context{Entity: i, Method: j, Locals: locals(vars), Regions: regions}
}

// row is a question for Rule: an expression, the types of its Kids, and the type that is wanted, or the error.
type row struct{ x, kids, want string }

// codes has the names of errors in tables.
func codes() map[string]api.Errno {
	return map[string]api.Errno{
		"ErrForm": api.ErrForm, "ErrRange": api.ErrRange, "ErrSize": api.ErrSize, "ErrNone": api.ErrNone, "ErrType": api.ErrType, "ErrScope": api.ErrScope, "ErrCap": api.ErrCap,
		"ErrArgs": check.ErrArgs, "ErrResult": check.ErrResult, "ErrView": check.ErrView, "ErrSend": check.ErrSend, "ErrPlace": check.ErrPlace, "ErrCases": check.ErrCases,
	}
}

// rules asks Rule for each row.
func rules(t *testing.T, p []api.Entity, c check.Context, rows []row) {
	t.Helper()
	for _, r := range rows {
		x := notation.Expr(r.x)
		got, e := check.Rule(p, c, x, kinds(r.kids))
		want, isError := codes()[r.want]
		switch {
		case isError && (e != want || shown(got) != "0"):
			t.Errorf("%s of %s: %s, error %d, want %s", r.x, r.kids, shown(got), e, r.want)
		case !isError && (e != api.OK || shown(got) != r.want):
			t.Errorf("%s of %s: %s, error %d, want %s", r.x, r.kids, shown(got), e, r.want)
		}
	}
}

// TestRuleFirst is P13.1 for the errors ahead of all rules.
func TestRuleFirst(t *testing.T) {
	p := notation.Program(units)
	c := place(t, p, "main.C.m", "")
	rules(t, p, c, []row{{"this", "U32 val", "ErrSize"}, {"(seq this)", "", "ErrSize"}, {"(seq.x this)", "U32 val; U32 val", "ErrSize"}, {"-", "", "ErrForm"}, {"-", "0", "ErrSize"}})
	for _, x := range [][2]int{{-1, 0}, {len(p), 0}, {0, 0}, {c.Entity, -1}, {c.Entity, len(p[c.Entity].Methods)}} {
		c := check.Context{Entity: x[0], Method: x[1]}
		rules(t, p, c, []row{{"this.x", "", "ErrRange"}, {"this", "", "ErrRange"}, {"this", "0", "ErrSize"}})
	}
	for _, op := range []int{-1, 27, 1000} {
		if _, e := check.Rule(p, c, api.Expr{Op: op}, nil); e != api.ErrForm {
			t.Errorf("operation %d: error %d", op, e)
		}
	}
	if _, e := check.Rule(nil, check.Context{}, api.Expr{Op: api.OpThis}, nil); e != api.ErrRange {
		t.Errorf("no program: error %d", e)
	}
}

// TestLiterals is P13.1 for OpLit and OpUnit.
func TestLiterals(t *testing.T) {
	p := notation.Program(units)
	rules(t, p, place(t, p, "main.C.m", ""), []row{
		{"lit.5{U32 val}", "", "U32 val"}, {"lit.5{U32 iso^}", "", "U32 val"}, {`lit."-5"{I8 tag!}`, "", "I8 val"}, {`lit."1.5"{F64 val}`, "", "F64 val"}, {"lit.true{Bool box}", "", "Bool val"}, {"lit.false{Bool val}", "", "Bool val"},
		{`lit.""{String ref}`, "", "String val"}, {`lit."a b"{String val}`, "", "String val"}, {`lit."\xff"{String val}`, "", "ErrForm"},
		{"lit.yes{Bool val}", "", "ErrForm"}, {"lit{Bool val}", "", "ErrForm"}, {"lit.x{U32 val}", "", "ErrForm"}, {"lit{U32 val}", "", "ErrForm"}, {`lit."1.5"{U32 val}`, "", "ErrForm"},
		{"lit.4294967296{U32 val}", "", "ErrRange"}, {"lit.5{main.C ref}", "", "ErrNone"}, {"lit.5{None val}", "", "ErrNone"},
		{"unit{None val}", "", "None val"}, {"unit{None iso^}", "", "None val"}, {"unit{main.P ref}", "", "main.P val"}, {"unit{U32 val}", "", "ErrType"}, {"unit{Bool val}", "", "ErrType"}, {"unit{F64 val}", "", "ErrType"},
		{"unit{main.C val}", "", "ErrType"}, {"unit{main.T val}", "", "ErrType"}, {"unit{main.A val}", "", "ErrType"}, {"unit{Any val}", "", "ErrType"}, {"unit{main.X val}", "", "ErrType"}, {"unit{String val}", "", "ErrType"},
	})
}

// TestLocals is P13.1 for OpLocal, OpConsume and OpAssign.
func TestLocals(t *testing.T) {
	p := notation.Program(units)
	vars := "i: main.C iso; e: main.C iso^; n: main.C trn; m: main.C trn^; r: main.C ref; d: U32 val; d: Bool val; v: main.C val; u: (main.C iso | main.C ref); p!: main.C ref; q?: U32 val; a: main.C iso!; in: main.C ref@1; is: main.C iso@1; two: U32 val@2; two: main.C val@2; gone: U32 val; gone: U32 val@9; any: (this -> main.C ref)"
	rules(t, p, place(t, p, "main.C.m", vars), []row{
		{"local.i", "", "main.C iso!"}, {"local.e", "", "main.C iso!"}, {"local.n", "", "main.C trn!"}, {"local.m", "", "main.C trn!"}, {"local.r", "", "main.C ref"}, {"local.d", "", "Bool val"}, {"local.a", "", "main.C iso!"}, {"local.u", "", "(main.C iso! | main.C ref)"},
		{"consume.i", "", "main.C iso^"}, {"consume.e", "", "main.C iso^"}, {"consume.n", "", "main.C trn^"}, {"consume.r", "", "main.C ref"}, {"consume.d", "", "Bool val"}, {"consume.a", "", "main.C iso!"}, {"consume.p", "", "main.C ref"},
		{"local.x", "", "ErrScope"}, {"consume.x", "", "ErrScope"}, {"local.in", "", "ErrScope"}, {"consume.is", "", "ErrScope"}, {"local.gone", "", "ErrScope"}, {"local.any", "", "(this -> main.C ref)"},
		{"(assign.r consume.r)", "main.C ref", "main.C ref"}, {"(assign.i this)", "main.C iso^", "main.C iso^"}, {"(assign.i this)", "0", "main.C iso^"}, {"(assign.q this)", "U32 val", "(None val | U32 val)"}, {"(assign.d this)", "Bool val", "Bool val"}, {"(assign.d this)", "U32 val", "ErrResult"},
		{"(assign.i this)", "main.C iso!", "ErrResult"}, {"(assign.x this)", "U32 val", "ErrScope"}, {"(assign.in this)", "main.C ref", "ErrScope"}, {"(assign.p this)", "main.C ref", "ErrPlace"}, {"(assign.p this)", "U32 val", "ErrPlace"}, {"(assign.gone this)", "U32 val", "ErrScope"},
	})
	rules(t, p, place(t, p, "main.C.m", vars, 1), []row{
		{"local.i", "", "main.C iso!"}, {"local.r", "", "ErrSend"}, {"local.n", "", "ErrSend"}, {"local.m", "", "ErrSend"}, {"local.u", "", "ErrSend"}, {"local.v", "", "main.C val"}, {"local.a", "", "main.C iso!"}, {"local.in", "", "main.C ref"}, {"local.is", "", "main.C iso!"}, {"local.two", "", "ErrScope"}, {"local.any", "", "ErrSend"},
		{"consume.i", "", "main.C iso^"}, {"consume.r", "", "ErrSend"}, {"consume.in", "", "main.C ref"}, {"consume.two", "", "ErrScope"}, {"consume.x", "", "ErrScope"},
		{"(assign.in this)", "main.C ref", "main.C ref"}, {"(assign.i this)", "main.C iso^", "ErrSend"}, {"(assign.i this)", "U32 val", "ErrSend"}, {"(assign.p this)", "U32 val", "ErrPlace"}, {"(assign.two this)", "main.C val", "ErrScope"},
	})
	rules(t, p, place(t, p, "main.C.m", vars, 1, 2), []row{
		{"local.in", "", "ErrSend"}, {"local.is", "", "main.C iso!"}, {"local.two", "", "main.C val"}, {"consume.in", "", "ErrSend"}, {"consume.is", "", "main.C iso^"},
		{"(assign.is this)", "main.C iso^", "ErrSend"}, {"(assign.two this)", "main.C val", "main.C val"}, {"(assign.two this)", "U32 val", "ErrResult"}, {"(assign.d this)", "Bool val", "ErrSend"},
	})
	c := place(t, p, "main.C.m", "x: U32 val; y: U32 val")
	c.Locals[0].Type, c.Locals[1].Type = api.Type{}, api.Type{Kind: api.TypeName, Name: "C"}
	rules(t, p, c, []row{{"local.x", "", "ErrForm"}, {"local.y", "", "ErrForm"}, {"consume.x", "", "ErrForm"}, {"(assign.x this)", "0", "ErrForm"}, {"(assign.x this)", "U32 val", "ErrResult"}})
	c.Regions = []int{1}
	rules(t, p, c, []row{{"local.x", "", "ErrSend"}, {"consume.y", "", "ErrSend"}})
	rules(t, p, place(t, p, "main.C.m", vars, 2, 1), []row{{"local.in", "", "main.C ref"}, {"local.two", "", "main.C val"}, {"(assign.two this)", "main.C val", "ErrSend"}})
}

// TestThis is P13.1 for OpThis.
func TestThis(t *testing.T) {
	p := notation.Program(units)
	for method, want := range map[string][2]string{
		"main.C.m": {"main.C box", "ErrSend"}, "main.C.r": {"main.C ref", "ErrSend"}, "main.C.w": {"main.C val", "main.C val"}, "main.C.g": {"main.C tag", "main.C tag"}, "main.C.o": {"main.C iso!", "main.C iso!"}, "main.C.n": {"main.C trn!", "ErrSend"},
		"main.C.create": {"main.C ref", "ErrSend"}, "main.C.make": {"main.C ref", "ErrSend"}, "main.A.create": {"main.A ref", "ErrSend"}, "main.A.go": {"main.A ref", "ErrSend"}, "main.A.m": {"main.A box", "ErrSend"},
		"main.P.create": {"main.P val", "main.P val"}, "main.P.p": {"main.P box", "ErrSend"}, "main.T.go": {"main.T ref", "ErrSend"}, "main.T.m": {"main.T box", "ErrSend"},
	} {
		rules(t, p, place(t, p, method, ""), []row{{"this", "", want[0]}})
		rules(t, p, place(t, p, method, "", 3), []row{{"this", "", want[1]}})
	}
	bad := []api.Entity{{Kind: api.Class, Methods: []api.Method{{Kind: api.Fun, Cap: api.Ref}}}, {Kind: api.Class, Name: "C", Methods: []api.Method{{Kind: api.Fun, Cap: api.CapSend}}}}
	rules(t, bad, check.Context{}, []row{{"this", "", "ErrForm"}})
	rules(t, bad, check.Context{Entity: 1}, []row{{"this", "", "ErrForm"}})
}

// TestFields is P13.1 for OpGet and OpSet.
func TestFields(t *testing.T) {
	p := notation.Program(units)
	fun, made := place(t, p, "main.C.r", ""), place(t, p, "main.C.create", "")
	rules(t, p, fun, []row{
		{"(get.f this)", "main.C ref", "main.C ref"}, {"(get.f this)", "main.C box", "main.C box"}, {"(get.f this)", "main.C val", "main.C val"}, {"(get.f this)", "main.C trn", "main.C box"}, {"(get.f this)", "main.C iso", "main.C tag"}, {"(get.f this)", "main.C iso^", "main.C tag"},
		{"(get.i this)", "main.C ref", "main.C iso!"}, {"(get.i this)", "main.C iso", "main.C iso!"}, {"(get.i this)", "main.C box", "main.C tag"}, {"(get.t this)", "main.C ref", "main.C trn!"}, {"(get.t this)", "main.C trn!", "main.C box"}, {"(get.u this)", "main.C ref", "(main.C iso! | None val)"},
		{"(get.f this)", "main.C tag", "ErrView"}, {"(get.f this)", "main.C iso!", "ErrView"}, {"(get.f this)", "main.A ref", "main.C iso!"}, {"(get.x this)", "main.C ref", "ErrNone"}, {"(get.x this)", "main.C tag", "ErrNone"}, {"(get.f this)", "main.P val", "ErrType"}, {"(get.f this)", "main.T ref", "ErrType"}, {"(get.f this)", "main.I ref", "ErrType"},
		{"(get.f this)", "main.X ref", "ErrType"}, {"(get.f this)", "0", "ErrType"}, {"(get.f this)", "(main.C ref | main.C box)", "ErrType"}, {"(get.f this)", "(main.C ref & main.C ref)", "ErrType"}, {"(get.x this)", "main.P val", "ErrType"}, {"(get.f this)", "U32 val", "ErrType"}, {"(get.f this)", "$main.C ref", "ErrType"},
		{"(set.f this this)", "main.C ref; main.C ref", "main.C ref"}, {"(set.f this this)", "main.C ref; main.C iso^", "main.C ref"}, {"(set.i this this)", "main.C ref; main.C iso^", "main.C iso^"}, {"(set.i this this)", "main.C iso; main.C iso^", "main.C iso^"}, {"(set.t this this)", "main.C ref; main.C trn^", "main.C trn^"},
		{"(set.t this this)", "main.C trn; main.C trn^", "main.C box"}, {"(set.t this this)", "main.C iso; main.C iso^", "main.C tag"}, {"(set.f this this)", "main.C trn; main.C iso^", "main.C box"}, {"(set.u this this)", "main.C ref; None val", "(main.C iso^ | None val)"}, {"(set.g this this)", "main.C iso; main.C val", "main.C tag"},
		{"(set.f this this)", "main.P val; main.C ref", "ErrType"}, {"(set.x this this)", "main.C ref; U32 val", "ErrNone"}, {"(set.f this this)", "0; main.C ref", "ErrType"}, {"(set.x this this)", "main.C box; U32 val", "ErrNone"},
		{"(set.l this this)", "main.C ref; U32 val", "ErrPlace"}, {"(set.l this this)", "main.C box; Bool val", "ErrPlace"}, {"(set.f this this)", "main.C box; main.C ref", "ErrView"}, {"(set.f this this)", "main.C val; Bool val", "ErrView"}, {"(set.f this this)", "main.C tag; main.C ref", "ErrView"}, {"(set.f this this)", "main.C iso!; main.C ref", "ErrView"}, {"(set.f this this)", "main.C trn!; main.C ref", "ErrView"},
		{"(set.f this this)", "main.C ref; main.C box", "ErrResult"}, {"(set.f this this)", "main.C iso; main.C box", "ErrResult"}, {"(set.f this this)", "main.C iso; main.C ref", "ErrSend"}, {"(set.b this this)", "main.C iso; main.C ref", "ErrSend"}, {"(set.b this this)", "main.C trn; main.C ref", "ErrSend"}, {"(set.b this this)", "main.C ref; main.C ref", "main.C box"}, {"(set.b this this)", "main.C trn; main.C trn", "main.C box"},
		{"(set.f this this)", "main.A ref; main.C iso^", "main.C iso^"}, {"(set.f this this)", "main.C ref; (main.C ref | main.C iso^)", "main.C ref"}, {"(set.f this error)", "main.C ref; 0", "ErrSend"}, {"(set.f this error)", "main.C box; 0", "ErrView"},
	})
	rules(t, p, made, []row{
		{"(set.f this local.x)", "main.C ref; main.C ref", "(None val | main.C ref)"}, {"(set.l this local.x)", "main.C ref; U32 val", "(None val | U32 val)"}, {"(set.l local.y local.x)", "main.C ref; U32 val", "ErrPlace"}, {"(set.f local.y local.x)", "main.C ref; main.C ref", "main.C ref"},
		{"(set.i this local.x)", "main.C ref; main.C iso^", "(None val | main.C iso^)"}, {"(set.u this local.x)", "main.C ref; main.C iso^", "(None val | main.C iso^)"}, {"(set.u local.y local.x)", "main.C ref; main.C iso^", "(main.C iso^ | None val)"},
	})
}

// TestDeclarations is P13.1 for OpVar and OpLet.
func TestDeclarations(t *testing.T) {
	p := notation.Program(units)
	for _, op := range []string{"var", "let"} {
		rules(t, p, place(t, p, "main.C.r", ""), []row{
			{op + ".x{U32 val}", "", "None val"}, {"(" + op + ".x{U32 val} this)", "U32 val", "None val"}, {"(" + op + ".x{U32 val} this)", "0", "None val"}, {"(" + op + ".x{main.C iso} this)", "main.C iso!", "ErrResult"}, {"(" + op + ".x{main.C iso^} this)", "main.C iso^", "None val"},
			{op + ".x{$A}", "", "ErrForm"}, {op + ".x{this}", "", "ErrForm"}, {op + ".x{this ref}", "", "None val"}, {op + ".x{(this ref -> U32 val)}", "", "ErrForm"}, {op + ".x{(U32 val, (this ref -> U32 val))}", "", "ErrForm"}, {op + ".x{A[(this ref -> U32 val)] val}", "", "ErrForm"}, {op + ".x{A[$A] val}", "", "ErrForm"},
			{op + ".x{(main.T ref & main.I ref)}", "", "None val"}, {op + ".x{(main.T ref & main.I box)}", "", "ErrForm"}, {op + ".x{(main.T iso & main.I iso!)}", "", "ErrForm"}, {op + ".x{(main.T ref & (main.I ref | U32 val))}", "", "ErrForm"}, {op + ".x{(main.T ref & (main.I ref, U32 val))}", "", "ErrForm"},
			{op + ".x{A[(main.T ref & main.I box)] val}", "", "ErrForm"}, {op + ".x{(U32 val | (main.T ref & main.I box))}", "", "ErrForm"}, {op + ".x{(main.T ref & A[U32 val] ref)}", "", "None val"}, {op + ".x{(main.T val & (main.I val | U32 val))}", "", "None val"}, {"(" + op + ".x{$A} this)", "Bool val", "ErrForm"},
		})
	}
}

// TestWays is P13.1 for sequences, branches and loops.
func TestWays(t *testing.T) {
	p := notation.Program(units)
	rules(t, p, place(t, p, "main.C.r", ""), []row{
		{"seq", "", "None val"}, {"(seq this)", "main.C iso^", "main.C iso^"}, {"(seq this this)", "U32 val; (U32 val | Bool val)", "(U32 val | Bool val)"}, {"(seq this error)", "U32 val; 0", "0"}, {"(seq error this)", "0; U32 val", "U32 val"},
		{"(if this this this)", "Bool val; U32 val; U32 val", "U32 val"}, {"(if this this this)", "Bool val; U32 val; Bool val", "(Bool val | U32 val)"}, {"(if this this -)", "Bool val; U32 val; 0", "(None val | U32 val)"}, {"(if this this -)", "Bool val; 0; 0", "None val"}, {"(if this this this)", "Bool val; 0; U32 val", "U32 val"}, {"(if this this this)", "Bool val; 0; 0", "0"},
		{"(if this this this)", "U32 val; U32 val; U32 val", "ErrType"}, {"(if this this this)", "0; U32 val; U32 val", "U32 val"}, {"(if this this this)", "(Bool val | None val); U32 val; U32 val", "ErrType"}, {"(if this this this)", "(Bool val | Bool box); U32 val; U32 val", "ErrType"}, {"(if this this this)", "Bool val; main.C ref!; 0", "main.C ref"},
		{"(while this this -)", "Bool val; U32 val; 0", "(None val | U32 val)"}, {"(while this this this)", "Bool val; U32 val; Bool val", "(Bool val | None val | U32 val)"}, {"(while this this -)", "Bool val; 0; 0", "None val"}, {"(while this this error)", "Bool val; 0; 0", "None val"}, {"(while this this this)", "U32 val; U32 val; U32 val", "ErrType"}, {"(while error this this)", "0; U32 val; U32 val", "(None val | U32 val)"},
		{"(try this - -)", "U32 val; 0; 0", "(None val | U32 val)"}, {"(try this this -)", "U32 val; Bool val; 0", "(Bool val | U32 val)"}, {"(try error this this)", "0; U32 val; Bool val", "U32 val"}, {"(try error error this)", "0; 0; Bool val", "0"}, {"(try error - this)", "0; 0; Bool val", "None val"}, {"(try this error -)", "U32 val; 0; 0", "U32 val"},
		{"error", "", "0"}, {"break", "", "0"}, {"continue", "", "0"}, {"(is this this)", "U32 val; main.C iso!", "Bool val"}, {"(is error error)", "0; 0", "Bool val"},
	})
	wide := func(kids int) string {
		var l []string
		for range kids {
			l = append(l, "main.X"+strings.Repeat("y", len(l))+" val")
		}
		return "(" + strings.Join(l, " | ") + ")"
	}
	rules(t, p, place(t, p, "main.C.r", ""), []row{{"(if this this this)", "Bool val; " + wide(64) + "; main.X val", wide(64)}, {"(if this this this)", "Bool val; " + wide(64) + "; U32 val", "ErrSize"}, {"(if this this this)", "U32 val; " + wide(64) + "; U32 val", "ErrType"}})
}

// TestReturns is P13.1 for OpReturn.
func TestReturns(t *testing.T) {
	p := notation.Program(units)
	rules(t, p, place(t, p, "main.C.m", ""), []row{{"(return this)", "U32 val", "0"}, {"(return this)", "0", "0"}, {"(return this)", "Bool val", "ErrResult"}, {"return", "", "ErrResult"}, {"(return this)", "None val", "ErrResult"}})
	rules(t, p, place(t, p, "main.C.a", ""), []row{{"(return this)", "main.C box", "0"}, {"(return this)", "main.C tag", "ErrResult"}})
	rules(t, p, place(t, p, "main.C.mine", ""), []row{{"(return this)", "this iso", "0"}, {"(return this)", "this iso!", "ErrResult"}})
	rules(t, p, place(t, p, "main.C.g", ""), []row{{"return", "", "0"}, {"(return this)", "None val", "0"}, {"(return this)", "U32 val", "ErrResult"}})
	rules(t, p, place(t, p, "main.P.q", ""), []row{{"return", "", "0"}, {"(return this)", "None val", "0"}, {"(return this)", "U32 val", "ErrResult"}})
	rules(t, p, place(t, p, "main.C.create", ""), []row{{"return", "", "0"}, {"(return this)", "main.C ref", "ErrResult"}})
	rules(t, p, place(t, p, "main.A.go", ""), []row{{"return", "", "0"}, {"(return this)", "U32 val", "ErrResult"}})
	bad := []api.Entity{{Kind: api.Class, Name: "C", Methods: []api.Method{
		{Kind: api.Fun, Cap: api.Tag, Result: notation.Type("(this -> C ref)")}, {Kind: api.Fun, Cap: api.Ref, Result: api.Type{Cap: api.Ref}}, {Kind: api.Fun, Cap: 9, Result: notation.Type("C ref")}, {Kind: api.Be, Cap: 9, Result: api.Type{Kind: 9}},
	}}, {Kind: api.Primitive, Name: "None"}}
	for i, want := range []string{"ErrCap", "ErrForm", "ErrCap", "0"} {
		rules(t, bad, check.Context{Method: i}, []row{{"(return this)", "0", want}, {"return", "", want}})
	}
}

// TestCalls is P13.1 for OpCall.
func TestCalls(t *testing.T) {
	p := notation.Program(units)
	rules(t, p, place(t, p, "main.C.r", ""), []row{
		{"(call.m this this)", "main.C ref; U32 val", "U32 val"}, {"(call.m this error)", "main.C ref; 0", "U32 val"}, {"(call.m error this)", "0; U32 val", "ErrType"}, {"(call.x this)", "main.C ref", "ErrNone"}, {"(call.x this)", "main.X ref", "ErrNone"}, {"(call.m this)", "(main.C ref, main.C ref)", "ErrNone"}, {"(call.m this)", "main.C[U32 val] ref", "ErrNone"},
		{"(call.create this)", "main.C ref", "ErrPlace"}, {"(call.create this)", "main.C tag", "ErrPlace"}, {"(call.m this)", "main.C ref", "ErrArgs"}, {"(call.m this this this)", "main.C ref; U32 val; U32 val", "ErrArgs"}, {"(call.m this this)", "main.C ref; Bool val", "ErrArgs"}, {"(call.m this this)", "main.C tag; Bool val", "ErrView"},
		{"(call.m this this)", "main.C iso^; U32 val", "U32 val"}, {"(call.m this this)", "main.C iso; U32 val", "ErrView"}, {"(call.m this this)", "main.C trn; U32 val", "U32 val"}, {"(call.m this this)", "main.C trn!; U32 val", "U32 val"}, {"(call.r this this)", "main.C trn; main.C ref", "ErrView"}, {"(call.r this this)", "main.C trn^; main.C ref", "main.C ref"}, {"(call.r this this)", "main.C box; main.C ref", "ErrView"},
		{"(call.o this)", "main.C iso", "None val"}, {"(call.o this)", "main.C iso!", "ErrView"}, {"(call.n this)", "main.C trn", "None val"}, {"(call.g this)", "main.C iso!", "None val"}, {"(call.w this)", "main.C val", "this val"},
		{"(call.a this this)", "main.C ref; main.C box", "main.C box"}, {"(call.a this this)", "main.C ref; main.C tag", "ErrArgs"}, {"(call.a this this)", "main.C val; main.C ref", "main.C box"},
	})
	rules(t, p, place(t, p, "main.C.r", ""), []row{
		{"(call.m this this)", "(main.C ref | main.C ref); U32 val", "U32 val"}, {"(call.m this this)", "(main.C ref | main.C box); U32 val", "ErrType"}, {"(call.m this this)", "(main.C ref | main.A ref); U32 val", "U32 val"}, {"(call.m this this)", "(main.C ref & main.I ref); U32 val", "U32 val"}, {"(call.m this this)", "(main.C ref & main.I box); U32 val", "ErrType"}, {"(call.m this this)", "(main.I ref & (main.C ref, main.C ref)); U32 val", "U32 val"},
		{"(call.m this this)", "(main.I ref & this ref); U32 val", "ErrType"}, {"(call.m this this)", "(main.I iso^ & main.C iso); U32 val", "ErrView"}, {"(call.m this this)", "(main.I iso^ & main.C iso^); U32 val", "U32 val"}, {"(call.m this this)", "(main.I trn! & main.C box); U32 val", "U32 val"}, {"(call.m this this)", "(main.I iso! & main.C tag); U32 val", "ErrView"}, {"(call.m this this)", "(main.C ref | U32 val); U32 val", "ErrNone"}, {"(call.m this this)", "(main.I ref & (this -> main.C ref)); U32 val", "U32 val"},
		{"(call.go this this)", "main.A tag; main.C iso^", "None val"}, {"(call.go this this)", "main.T tag; main.C iso^", "None val"}, {"(call.go this this)", "main.A tag; main.C iso!", "ErrArgs"}, {"(call.go this this)", "main.A tag; main.C ref", "ErrArgs"}, {"(call.go this)", "main.A tag", "ErrArgs"}, {"(call.go this this)", "(main.A tag & (main.I ref, U32 val)); main.C iso^", "None val"},
		{"(call.given this)", "main.C ref", "this box"}, {"(call.p this)", "main.P val", "main.C box"}, {"(call.p this)", "main.P box", "main.C box"}, {"(call.raw this)", "U32 val", "None val"}, {"(call.string this)", "None val", "String val"}, {"(call.i this)", "main.I iso^", "U32 val"},
		{"(call.apply this this)", "Array ref; U32 val", "main.C ref"}, {"(call.apply this this)", "Array val; U32 val", "main.C val"}, {"(call.apply this this)", "Array trn; U32 val", "main.C box"}, {"(call.apply this this)", "Array iso^; U32 val", "main.C tag"}, {"(call.apply this this)", "Array trn!; U32 val", "main.C box"}, {"(call.apply this this)", "Array iso; U32 val", "ErrView"},
		{"(call.apply this this)", "(Array ref & main.I ref); U32 val", "main.C box"}, {"(call.push this this)", "Array ref; main.C ref", "None val"}, {"(call.push this this)", "Array trn^; main.C box", "None val"}, {"(call.push this this)", "(Array trn^ & main.I trn^); main.C box", "ErrArgs"}, {"(call.push this this)", "(Array trn^ & main.X trn^); main.C box", "ErrArgs"},
		{"(call.apply this this)", "(Array val & (Array val | Out val)); U32 val", "main.C val"}, {"(call.done this this)", "Array val; this val", "this val"}, {"(call.done this this)", "Array val; this box", "ErrArgs"}, {"(call.none this this)", "Array ref; U32 val", "None val"}, {"(call.far this this)", "Array ref; main.C ref", "ErrCap"}, {"(call.far this)", "Array ref", "ErrArgs"},
		{"(call.mine this this)", "main.C iso; this iso^", "this iso"}, {"(call.mine this this)", "main.C iso; this iso!", "ErrArgs"},
	})
	odd := notation.Program("class ref C\nfun tag a(x: U32 val; y: U32 val)\nfun ref b(): U32 val\nfun box d(x: U32 val)\nclass ref U32\nprimitive val None")
	odd[0].Methods[0].Params[1].Type = notation.Type("(this -> C ref)")
	odd[0].Methods[1].Result = api.Type{Kind: 77}
	odd[0].Methods[2].Params[0].Type = api.Type{}
	rules(t, odd, check.Context{}, []row{{"(call.a this this this)", "C tag; U32 val; U32 val", "ErrCap"}, {"(call.a this this this)", "C tag; C tag; U32 val", "ErrArgs"}, {"(call.a this this)", "C tag; U32 val", "ErrArgs"}, {"(call.b this)", "C ref", "ErrNone"}, {"(call.d this this)", "C ref; 0", "ErrForm"}, {"(call.d this this)", "C ref; U32 val", "ErrForm"}, {"(call.d this)", "C ref", "ErrArgs"}})
}

// TestConstructions is P13.1 for OpNew.
func TestConstructions(t *testing.T) {
	p := notation.Program(units)
	rules(t, p, place(t, p, "main.C.r", ""), []row{
		{"(new.create{main.C val} this)", "U32 val", "main.C ref"}, {"(new.create{main.C val} error)", "0", "main.C ref"}, {"new.keep{main.C ref}", "", "main.C trn^"}, {"(new.make{main.C ref} this this)", "main.C iso^; main.C ref", "main.C iso^"}, {"(new.make{main.C ref} this this)", "main.C iso^; main.C box", "ErrArgs"}, {"(new.make{main.C ref} this this)", "main.C iso; main.C ref", "main.C iso^"}, {"(new.make{main.C ref} this this)", "main.C iso!; main.C ref", "ErrArgs"},
		{"(new.create{main.A tag} this)", "main.C iso^", "main.A tag"}, {"new.create{main.P val}", "", "main.P val"}, {"(new.create{U32 val} this)", "U32 val", "U32 val"}, {"new.create{Array ref}", "", "Array ref"},
		{"(new.odd{main.P val} this)", "main.C val", "main.P val"}, {"(new.odd{main.P val} this)", "main.C box", "ErrArgs"},
		{"(new.like{main.C ref} this)", "this ref", "main.C iso^"}, {"(new.like{main.C ref} this)", "this box", "ErrArgs"},
		{"new.create{main.T ref}", "", "ErrType"}, {"new.create{main.I ref}", "", "ErrType"}, {"new.create{main.X ref}", "", "ErrType"}, {"new.create{main.C[U32 val] ref}", "", "ErrType"}, {"new.m{main.T ref}", "", "ErrType"}, {"new.m{main.C ref}", "", "ErrNone"}, {"new.x{main.C ref}", "", "ErrNone"}, {"(new.x{main.C ref} this)", "main.C tag", "ErrNone"}, {"new.given{main.C ref}", "", "ErrNone"},
		{"new.create{main.C ref}", "", "ErrArgs"}, {"(new.create{main.C ref} this)", "Bool val", "ErrArgs"}, {"(new.create{main.C ref} this this)", "U32 val; U32 val", "ErrArgs"},
	})
	odd := notation.Program("class ref C\nfun box a()\nnew ref a()\nnew ref b(x: U32 val)\nnew ref d()\nclass ref B\nnew ref create()\nclass ref C\nnew ref e()")
	odd[0].Methods[2].Params[0].Type = api.Type{Kind: 9}
	odd[0].Methods[3].Cap = 12
	odd[1].Bounds = []api.Bound{{Name: "A"}}
	rules(t, odd, check.Context{}, []row{{"new.a{C ref}", "", "ErrNone"}, {"new.e{C ref}", "", "ErrNone"}, {"(new.b{C ref} this)", "0", "ErrForm"}, {"new.d{C ref}", "", "ErrForm"}, {"new.create{B ref}", "", "ErrType"}})
}

// TestRecovers is P13.1 for OpRecover.
func TestRecovers(t *testing.T) {
	p := notation.Program(units)
	rules(t, p, place(t, p, "main.C.r", ""), []row{
		{"(recover{this} this)", "main.C ref", "main.C iso^"}, {"(recover{this} this)", "main.C box", "main.C val"}, {"(recover{this} this)", "main.C tag", "main.C tag"}, {"(recover{this} this)", "main.C iso!", "main.C tag"}, {"(recover{this} this)", "main.C trn!", "main.C val"}, {"(recover{this} this)", "0", "0"}, {"(recover{this iso} this)", "0", "0"},
		{"(recover{this iso} this)", "main.C ref", "main.C iso"}, {"(recover{this val} this)", "main.C ref", "main.C val"}, {"(recover{this val} this)", "main.C tag", "ErrSend"}, {"(recover{this ref} this)", "main.C box", "ErrSend"}, {"(recover{this iso} this)", "main.C val", "ErrSend"}, {"(recover{this iso!} this)", "main.C ref", "main.C iso"},
		{"(recover{this} this)", "(main.C ref, U32 val)", "(main.C iso^, U32 val)"}, {"(recover{this} this)", "(main.C ref | main.C box)", "(main.C iso^ | main.C val)"}, {"(recover{this} this)", "this", "ErrSend"},
	})
}

// TestTuples is P13.1 for OpTuple and OpItem.
func TestTuples(t *testing.T) {
	p := notation.Program(units)
	rules(t, p, place(t, p, "main.C.r", ""), []row{
		{"(tuple this this)", "main.C iso^; U32 val", "(main.C iso^, U32 val)"}, {"(tuple this this this)", "U32 val; 0; U32 val", "0"}, {"(tuple this this)", "(U32 val, U32 val); U32 val", "((U32 val, U32 val), U32 val)"},
		{"(item.0 this)", "(main.C iso^, U32 val)", "main.C iso^"}, {"(item.1 this)", "(main.C iso^, U32 val)", "U32 val"}, {"(item.2 this)", "(main.C iso^, U32 val)", "ErrRange"}, {"(item.0 this)", "U32 val", "ErrType"}, {"(item.0 this)", "0", "ErrType"}, {"(item.63 this)", "((U32 val, U32 val) | (U32 val, U32 val))", "ErrType"}, {"(item.0 this)", "((U32 val, U32 val) & (U32 val, U32 val))", "ErrType"},
	})
	deep := "U32 val"
	for range 19 {
		deep = "(" + deep + ", U32 val)"
	}
	rules(t, p, place(t, p, "main.C.r", ""), []row{{"(tuple this this)", deep + "; U32 val", "ErrSize"}, {"(tuple this error)", deep + "; 0", "0"}})
	if _, e := check.Rule(p, check.Context{Entity: 1}, notation.Expr("(tuple this this)"), []api.Type{{Kind: 9}, {Kind: api.TypeName}}); e != api.ErrSize {
		t.Errorf("a tuple of what is none: error %d", e)
	}
}

// TestKindZero is P13.1 for types of the Kind 0 that are not the zero Type: they fit nothing.
func TestKindZero(t *testing.T) {
	p := notation.Program(units)
	c := place(t, p, "main.C.r", "x: U32 val")
	odd := api.Type{Cap: api.Val}
	for s, want := range map[string]api.Errno{
		"(var.y{U32 val} this)": check.ErrResult, "(assign.x this)": check.ErrResult, "(call.m this)": api.ErrNone, "(recover{this} this)": check.ErrSend, "(return this)": check.ErrResult, "(item.0 this)": api.ErrType, "(seq this)": api.OK,
	} {
		if _, e := check.Rule(p, c, notation.Expr(s), []api.Type{odd}); e != want {
			t.Errorf("%s: error %d, want %d", s, e, want)
		}
	}
	two := []api.Type{notation.Type("Bool val"), odd, {}}
	for s, want := range map[string]api.Errno{"(if this this this)": api.ErrForm, "(while this this -)": api.ErrForm, "(tuple this this this)": api.OK} {
		if _, e := check.Rule(p, c, notation.Expr(s), two); e != want {
			t.Errorf("%s: error %d, want %d", s, e, want)
		}
	}
}

// TestRuleMemory: what Rule returns shares no memory with its arguments, and changes none of them.
func TestRuleMemory(t *testing.T) {
	p := notation.Program(units)
	c := place(t, p, "main.C.r", "x: (main.C ref | U32 val)")
	kid := notation.Type("(main.C ref, U32 val)")
	for _, s := range []string{"(seq this)", "(item.0 this)", "(recover{this} this)", "local.x", "consume.x"} {
		x := notation.Expr(s)
		kids := slices.Repeat([]api.Type{kid}, len(x.Kids))
		before, _ := check.Rule(p, c, x, kids)
		got, _ := check.Rule(p, c, x, kids)
		for i := range got.Args {
			got.Args[i] = api.Type{}
		}
		again, _ := check.Rule(p, c, x, kids)
		if !types.Equal(before, again) {
			t.Errorf("%s: %s, behind a change %s", s, shown(before), shown(again))
		}
	}
}
