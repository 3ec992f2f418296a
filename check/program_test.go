package check_test

import (
	"slices"
	"strconv"
	"strings"
	"testing"

	"hackamore/api"
	"hackamore/check"
	"hackamore/notation"
	"hackamore/types"
)

// sound is a program without errors, to which others are added.
const sound = `
	interface tag Any
	primitive val None
	primitive val U32
	fun box add(y: U32 val): U32 val
	trait ref main.T
	fun box m(): U32 val
	interface ref main.I
	fun box m(): U32 val
`

// faulty holds the error of a program that is added to the sound one; the Fault's Entity counts from there on.
func faulty(t *testing.T, text string, want check.Fault, code api.Errno) {
	t.Helper()
	p := append(notation.Program(sound), notation.Program(text)...)
	if code != api.OK {
		want.Entity += 5
	}
	f, e := check.Program(p)
	isFault(t, text, f, e, want, code)
	c, f, e := check.Check(p)
	if code != api.OK {
		isFault(t, "Check of "+text, f, e, want, code)
		if len(c.Bodies) > 0 {
			t.Errorf("%s: bodies beside an error", text)
		}
	}
}

// at returns a fault.
func at(entity, method int) check.Fault { return check.Fault{Entity: entity, Method: method} }

// TestProvides is P13.1 for what entities provide.
func TestProvides(t *testing.T) {
	for s, want := range map[string]api.Errno{
		"trait ref main.A is main.T ref": api.OK, "trait ref main.A is main.I ref": api.OK, "trait ref main.A is main.T iso!; main.I tag": api.OK, "interface ref main.A is main.I ref": api.OK, "interface ref main.A is main.T ref": check.ErrEntity,
		"trait ref main.A is U32 val": check.ErrEntity, "trait ref main.A is main.X ref": check.ErrEntity, "trait ref main.A is (main.T ref & main.I ref)": check.ErrEntity, "trait ref main.A is main.T[U32 val] ref": check.ErrEntity, "trait ref main.A is $A": check.ErrEntity, "trait ref main.A is this": check.ErrEntity, "trait ref main.A is main.T ref; main.A ref": check.ErrEntity,
		"trait ref main.A is main.B ref\ntrait ref main.B is main.T ref": api.OK, "trait ref main.A is main.T ref; main.T ref": api.OK,
	} {
		faulty(t, s, faultOf(want, 0, -1), want)
	}
	faulty(t, "trait ref main.A is main.B ref\ntrait ref main.B is main.A ref", at(0, -1), check.ErrEntity)
	faulty(t, "trait ref main.A is main.B ref\ntrait ref main.B is main.D ref\ntrait ref main.D is main.B ref", at(1, -1), check.ErrEntity)
	faulty(t, "trait ref main.A\ntrait ref main.B is main.A ref; main.D ref\ninterface ref main.D\ninterface ref main.E is main.B ref", at(3, -1), check.ErrEntity)
	p := append(notation.Program(sound), notation.Program("trait ref main.A is main.B ref\ntrait ref main.B")...)
	p[6].Bounds = []api.Bound{{Name: "X"}}
	f, e := check.Program(p)
	isFault(t, "a type without its arguments", f, e, at(6, -1), api.ErrForm)
	p[5].Provides = []api.Type{{Kind: api.TypeName, Name: "main.T"}}
	f, e = check.Program(p)
	isFault(t, "a type that is not well-formed", f, e, at(5, -1), check.ErrEntity)
}

// faultOf returns a fault, the zero one for no error.
func faultOf(e api.Errno, entity, method int) check.Fault {
	if e == api.OK {
		return check.Fault{}
	}
	return at(entity, method)
}

// TestEntities is P13.1 for entities and their fields, in the order of the errors.
func TestEntities(t *testing.T) {
	p := notation.Program(sound)
	add := func(change func(x *api.Entity)) []api.Entity {
		x := notation.Program("class ref main.C\nvar a: U32 val\nfun box f() => seq")[0]
		change(&x)
		return append(slices.Clone(p), x)
	}
	many := slices.Repeat([]api.Type{notation.Type("main.I ref")}, 65)
	for i, x := range []struct {
		change func(x *api.Entity)
		want   api.Errno
	}{
		{func(x *api.Entity) {}, api.OK},
		{func(x *api.Entity) { x.Name, x.Kind = "main.T", 9 }, api.ErrTwice}, {func(x *api.Entity) { x.Kind = 0 }, api.ErrForm}, {func(x *api.Entity) { x.Kind = 6 }, api.ErrForm}, {func(x *api.Entity) { x.Kind = -1 }, api.ErrForm},
		{func(x *api.Entity) { x.Cap = 0 }, api.ErrForm}, {func(x *api.Entity) { x.Cap = api.CapRead }, api.ErrForm}, {func(x *api.Entity) { x.Bounds = make([]api.Bound, 1) }, api.ErrForm}, {func(x *api.Entity) { x.Cap, x.Provides = 0, many }, api.ErrForm},
		{func(x *api.Entity) {
			x.Provides = many[:64]
			x.Methods = notation.Program(sound)[3].Methods
			x.Kind = api.Trait
			x.Fields = nil
		}, api.OK}, {func(x *api.Entity) { x.Provides = many }, api.ErrSize}, {func(x *api.Entity) { x.Provides = slices.Repeat([]api.Type{{}}, 65) }, api.ErrSize}, {func(x *api.Entity) { x.Fields = make([]api.Field, 65) }, api.ErrSize}, {func(x *api.Entity) { x.Methods = make([]api.Method, 65) }, api.ErrSize},
		{func(x *api.Entity) {
			x.Fields = x.Fields[:0]
			for i := range 64 {
				x.Fields = append(x.Fields, api.Field{Name: strconv.Itoa(i), Type: notation.Type("U32 val")})
			}
		}, api.OK},
		{func(x *api.Entity) {
			m := x.Methods[0]
			x.Methods = nil
			for i := range 64 {
				m.Name = strconv.Itoa(i)
				x.Methods = append(x.Methods, m)
			}
		}, api.OK},
		{func(x *api.Entity) { x.Provides, x.Fields = make([]api.Type, 1), make([]api.Field, 2) }, check.ErrEntity},
		{func(x *api.Entity) { x.Kind = api.Primitive }, check.ErrEntity}, {func(x *api.Entity) { x.Kind, x.Fields[0].Type = api.Trait, api.Type{} }, check.ErrEntity}, {func(x *api.Entity) { x.Kind = api.Interface }, check.ErrEntity}, {func(x *api.Entity) { x.Kind = api.Actor }, api.OK},
		{func(x *api.Entity) { x.Fields = append(x.Fields, api.Field{Name: "a"}) }, api.ErrTwice}, {func(x *api.Entity) { x.Fields[0].Type = api.Type{}; x.Fields = append(x.Fields, x.Fields[0]) }, api.ErrForm},
		{func(x *api.Entity) { x.Fields[0].Type = notation.Type("$A") }, api.ErrForm}, {func(x *api.Entity) { x.Fields[0].Type = notation.Type("this") }, api.ErrForm}, {func(x *api.Entity) { x.Fields[0].Type = notation.Type("this ref") }, api.OK}, {func(x *api.Entity) { x.Fields[0].Type = notation.Type("(this ref -> U32 val)") }, api.ErrForm}, {func(x *api.Entity) { x.Fields[0].Type = notation.Type("(main.T ref & main.I box)") }, api.ErrForm},
		{func(x *api.Entity) { x.Fields[0].Type = notation.Type("A[(U32 val, (main.T ref & main.I ref!))] ref") }, api.ErrForm}, {func(x *api.Entity) { x.Fields[0].Type = notation.Type("A[(U32 val, (main.T ref & main.I ref))] ref") }, api.OK}, {func(x *api.Entity) { x.Fields[0].Type = notationDeep(21) }, api.ErrForm}, {func(x *api.Entity) { x.Fields[0].Type = notationDeep(20) }, api.OK},
		{func(x *api.Entity) { x.Fields[0].Name = "" }, api.OK}, {func(x *api.Entity) { x.Name = "\xff" }, api.OK}, {func(x *api.Entity) { x.Name = "" }, api.OK}, {func(x *api.Entity) { x.Name, x.Provides = "", many[:1] }, check.ErrEntity},
	} {
		f, e := check.Program(add(x.change))
		isFault(t, "change "+strconv.Itoa(i), f, e, faultOf(x.want, 5, -1), x.want)
	}
	f, e := check.Program(make([]api.Entity, 201))
	isFault(t, "too many entities", f, e, at(0, -1), api.ErrSize)
	f, e = check.Program(make([]api.Entity, 200))
	isFault(t, "entities that are none", f, e, at(0, -1), api.ErrForm)
	var all []api.Entity
	for i := range 200 {
		all = append(all, api.Entity{Kind: api.Class, Name: strconv.Itoa(i), Cap: api.Ref})
	}
	f, e = check.Program(all)
	isFault(t, "as many entities as there may be", f, e, check.Fault{}, api.OK)
	f, e = check.Program(nil)
	isFault(t, "no entities", f, e, check.Fault{}, api.OK)
	all[7].Name, all[3].Kind = "6", 0
	f, e = check.Program(all)
	isFault(t, "two errors", f, e, at(3, -1), api.ErrForm)
}

// TestMembers is P13.1 for methods, in the order of the errors.
func TestMembers(t *testing.T) {
	long := "fun box f(" + strings.Join(slices.Collect(numbered(64)), "; ") + ")"
	for s, want := range map[string]api.Errno{
		"class ref main.C\nfun box f() => seq\nfun ref f()": api.ErrTwice, "class ref main.C\nfun box f() => seq\nnew ref f(x: $A; x: $A)": api.ErrTwice,
		"class ref main.C\nfun box g() => seq\nfun box f(x: U32 val; y: U32 val; x: $A) => seq": api.ErrTwice, "class ref main.C\nfun box g() => seq\n" + long + " => seq": api.OK, "class ref main.C\nfun box g() => seq\n" + strings.Replace(long, ")", "; x0: U32 val)", 1) + " => seq": api.ErrForm,
		"class ref main.C\nfun box g() => seq\nfun box f(x: $A) => seq": api.ErrForm, "class ref main.C\nfun box g() => seq\nfun box f(): $A => seq": api.ErrForm, "class ref main.C\nfun box g() => seq\nfun box f(): A[$A] ref => seq": api.ErrForm, "class ref main.C\nfun box g() => seq\nfun box f(x: (this -> main.C ref)): this => seq": api.OK, "class ref main.C\nfun box g() => seq\nfun tag f(x: (this -> main.C ref)) => seq": api.ErrForm,
		"class ref main.C\nfun box g() => seq\nfun tag f(): (this -> main.C ref) => seq": api.ErrForm, "class ref main.C\nfun box g() => seq\nfun box f(x: (main.T ref & main.I box)) => seq": api.ErrForm, "class ref main.C\nfun box g() => seq\nfun box f(): (main.T ref & main.I box) => seq": api.ErrForm, "class ref main.C\nfun box g() => seq\nfun box f(x: (this -> (main.T ref & main.I box))) => seq": api.ErrForm,
		"class ref main.C\nfun box g() => seq\nfun box f(x: (main.T ref & (this -> main.I ref))) => seq": api.OK, "class ref main.C\nfun box g() => seq\nfun box f(x: (main.T ref & (this -> main.I val))) => seq": api.ErrForm,
		"trait ref main.C\nfun box g()\nnew ref f() => seq": check.ErrEntity, "interface ref main.C\nfun box g()\nnew ref f()": check.ErrEntity, "class ref main.C\nfun box g() => seq\nbe tag f() => seq": check.ErrEntity, "primitive val main.C\nfun box g() => seq\nbe tag f() => seq": check.ErrEntity, "trait ref main.C\nfun box g()\nbe tag f()": api.OK, "interface ref main.C\nfun box g()\nbe box f()": api.OK,
		"actor tag main.C\nfun box g() => seq\nnew ref f() => seq": check.ErrEntity, "actor tag main.C\nfun box g() => seq\nnew tag f() => seq": api.OK, "primitive val main.C\nfun box g() => seq\nnew box f() => seq": check.ErrEntity, "primitive val main.C\nfun box g() => seq\nnew val f() ? => seq": api.OK, "class ref main.C\nfun box g() => seq\nnew box f() ? => seq": api.OK,
		"actor tag main.C\nfun box g() => seq\nbe tag f(): U32 val => seq": check.ErrEntity, "actor tag main.C\nfun box g() => seq\nbe tag f(): None val => seq": api.OK, "actor tag main.C\nfun box g() => seq\nbe tag f(): None box => seq": check.ErrEntity, "actor tag main.C\nfun box g() => seq\nbe tag f() ? => error": check.ErrEntity, "actor tag main.C\nfun box g() => seq\nnew tag f() ? => error": check.ErrEntity, "actor tag main.C\nfun box g() => seq\nfun ref f() ? => error": api.OK, "trait ref main.C\nfun box g()\nbe tag f() ?": check.ErrEntity,
		"actor tag main.C\nfun box g() => seq\nbe tag f(x: main.T ref): U32 val => seq": check.ErrEntity, "actor tag main.C\nfun box g() => seq\nbe tag f(x: main.T ref) => seq": check.ErrSend, "actor tag main.C\nfun box g() => seq\nbe tag f(x: main.T iso; y: main.T val; z: (main.T tag, main.T trn)) => seq": check.ErrSend, "actor tag main.C\nfun box g() => seq\nbe tag f(x: main.T iso!; y: main.T val; z: (main.T tag, main.T iso^)) => seq": api.OK, "actor tag main.C\nfun box g() => seq\nbe box f(x: (this -> main.T val)) => seq": check.ErrSend,
		"actor tag main.C\nfun box g() => seq\nnew tag f(x: main.T box) => seq": check.ErrSend, "actor tag main.C\nfun box g() => seq\nfun ref f(x: main.T box) => seq": api.OK, "class ref main.C\nfun box g() => seq\nnew iso f(x: main.T box) => seq": check.ErrSend, "class ref main.C\nfun box g() => seq\nnew trn f(x: main.T box) => seq": check.ErrSend, "class ref main.C\nfun box g() => seq\nnew val f(x: main.T ref) => seq": check.ErrSend, "class ref main.C\nfun box g() => seq\nnew ref f(x: main.T ref) => seq": api.OK, "class ref main.C\nfun box g() => seq\nnew box f(x: main.T ref) => seq": api.OK, "class ref main.C\nfun box g() => seq\nnew tag f(x: main.T ref) => seq": api.OK, "primitive val main.C\nfun box g() => seq\nnew val f(x: main.T ref) => seq": api.OK,
		"trait ref main.C\nfun box g()\nbe tag f(x: main.T ref)": check.ErrSend, "class ref main.C\nfun box g() => seq\nnew iso f(x: main.T iso) => seq": api.OK, "class ref main.C\nfun box g() => seq\nnew iso f(x: this) => seq": check.ErrSend,
		"class ref main.C\nfun box g() => seq\nfun box f()": check.ErrPlace, "actor tag main.C\nfun box g() => seq\nbe tag f()": check.ErrPlace, "actor tag main.C\nfun box g() => seq\nbe tag f(x: main.T ref)": check.ErrSend, "primitive val main.C\nfun box g() => seq\nfun box f()": check.ErrPlace, "trait ref main.C\nfun box g() => seq\nfun box f()": api.OK, "interface ref main.C\nfun box g()\nfun box f() => seq": check.ErrPlace, "class ref C\nfun box g() => seq\nfun box f()": api.OK, "class ref C[main.C ref]\nfun box g()\nfun box f()": api.OK, "class ref main.C[U32 val]\nfun box g() => seq\nfun box f()": check.ErrPlace, "interface ref C\nfun box g()\nfun box f() => seq": check.ErrPlace,
	} {
		faulty(t, s, faultOf(want, 0, 1), want)
	}
	for i, change := range []func(m *api.Method){
		func(m *api.Method) { m.Kind = 0 }, func(m *api.Method) { m.Kind = 4 }, func(m *api.Method) { m.Cap = 0 }, func(m *api.Method) { m.Cap = api.CapAny }, func(m *api.Method) { m.Bounds = make([]api.Bound, 1) }, func(m *api.Method) { m.Result = api.Type{Cap: api.Ref} }, func(m *api.Method) { m.Result = api.Type{Kind: 9} },
		func(m *api.Method) { m.Params = []api.Param{{Name: "x"}} }, func(m *api.Method) { m.Params = []api.Param{{Name: "x", Type: notationDeep(21)}} }, func(m *api.Method) { m.Kind, m.Params = 0, []api.Param{{Name: "x"}, {Name: "x"}} },
	} {
		p := append(notation.Program(sound), notation.Program("class ref main.C\nfun box g() => seq\nfun box f() => seq")...)
		change(&p[5].Methods[1])
		f, e := check.Program(p)
		isFault(t, "method "+strconv.Itoa(i), f, e, at(5, 1), api.ErrForm)
	}
	faulty(t, "class ref main.C\nfun box g() => seq\nfun box f()\nclass ref main.T", at(0, 1), check.ErrPlace)
}

// numbered hands on parameters.
func numbered(n int) func(yield func(string) bool) {
	return func(yield func(string) bool) {
		for i := range n {
			if !yield("x" + strings.Repeat("y", i) + ": U32 val") {
				return
			}
		}
	}
}

// TestKept is P13.1 for the methods that entities have of what they provide.
func TestKept(t *testing.T) {
	const traits = "\ntrait ref main.B\nbe tag go()\ntrait ref main.D\nfun box d(): U32 val => lit.1{U32 val}\ntrait ref main.E is main.T ref\ntrait ref main.F\nfun box d(): Bool val\nprimitive val Bool\ntrait ref main.O\nfun box m(): U32 val => lit.1{U32 val}\nclass ref X is main.T ref"
	for s, want := range map[string]api.Errno{
		"class ref main.C is main.T ref\nfun box m(): U32 val => seq": api.OK, "class ref main.C is main.T ref": check.ErrEntity, "class ref main.C is main.T ref\nfun ref m(): U32 val => seq": check.ErrEntity, "class ref main.C is main.T val\nfun tag m(): U32 val => seq": api.OK, "class ref main.C is main.T ref\nfun box m(): None val => seq": check.ErrEntity, "class ref main.C is main.T ref\nfun box m(): U32 val ? => seq": check.ErrEntity, "class ref main.C is main.T ref\nfun box m(x: U32 val): U32 val => seq": check.ErrEntity,
		"class ref main.C is main.B ref": check.ErrEntity, "primitive val main.C is main.B ref": check.ErrEntity, "actor tag main.C is main.B ref": check.ErrEntity, "actor tag main.C is main.B ref\nbe tag go() => seq": api.OK, "actor tag main.C is main.B ref\nfun tag go() => seq": check.ErrEntity, "trait ref main.C is main.B ref": api.OK, "interface ref main.C is Any tag": api.OK,
		"class ref main.C is main.D ref": api.OK, "class ref main.C is main.E ref": check.ErrEntity, "class ref main.C is main.E ref\nfun box m(): U32 val => seq": api.OK, "trait ref main.C is main.E ref": api.OK, "trait ref main.C is main.D ref; main.F ref": check.ErrEntity, "class ref main.C is main.D ref; main.F ref": check.ErrEntity, "trait ref main.C is main.F ref\nfun box d(): Bool val": api.OK, "trait ref main.C is main.F ref\nfun box d(): U32 val": check.ErrEntity,
		"class ref main.C is main.I ref\nfun box m(): U32 val => seq": api.OK, "class ref main.C is main.I ref": check.ErrEntity, "class ref C is main.T ref": api.OK, "actor tag main.C is main.T ref": check.ErrEntity, "primitive val main.C is main.T ref": check.ErrEntity, "class ref main.C is main.T ref; main.O ref": check.ErrEntity, "class ref main.C is main.O ref; main.T ref": api.OK, "class ref Y[main.C ref] is main.T ref": api.OK, "interface ref main.C is main.I ref\nfun tag m(): U32 val": api.OK, "interface ref main.C is main.I ref\nfun ref m(): U32 val": check.ErrEntity,
	} {
		faulty(t, s+traits, faultOf(want, 0, -1), want)
	}
	faulty(t, "class ref main.C is main.T ref\nclass ref main.T", at(1, -1), api.ErrTwice)
	faulty(t, "class ref main.C is main.D ref\nclass ref main.X is main.T ref"+traits, at(1, -1), check.ErrEntity)
	for i := range 2 { // what is too large is not found
		p := append(notation.Program(sound), notation.Program("trait ref main.L\nfun box m(): U32 val => lit.1{U32 val}\nclass ref main.C is main.L ref; main.T ref")...)
		p[5].Methods[0].Body = nested(100+i, notation.Expr("lit.1{U32 val}"))
		f, e := check.Program(p)
		isFault(t, "a large body", f, e, faultOf(api.Errno(i), 6, -1), []api.Errno{api.OK, check.ErrEntity}[i])
	}
}

// TestBegin is P13.1 for the context at the beginning of a method.
func TestBegin(t *testing.T) {
	p := notation.Program(units)
	i := slices.IndexFunc(p, func(x api.Entity) bool { return x.Name == "main.C" })
	p[i].Methods = append(p[i].Methods, notation.Method("fun val both(x: (this -> main.C ref); y: main.C iso; x: U32 val; z: this!) => (seq consume.y (recover{this} (seq consume.a)))"))
	p[i].Methods = append(p[i].Methods, notation.Method("fun box none(x: main.C iso)"))
	none := &p[i].Methods[len(p[i].Methods)-1].Body
	none.Kids = []api.Expr{notation.Expr("consume.x")}
	for method, want := range map[string]string{
		"main.C.both": "x!: main.C val; y!?: main.C iso; x!: U32 val; z!: this val", "main.C.none": "x!: main.C iso", "main.C.make": "x!: main.C iso; y!: main.C ref", "main.C.mine": "v!: this iso", "main.C.like": "v!: this ref", "main.P.odd": "y!: main.C val", "main.A.go": "x!: main.C iso", "main.T.go": "x!: main.C iso", "main.C.keep": "", "main.C.a": "x!: main.C box",
	} {
		want := locals(strings.ReplaceAll(want, "!?", "?!"))
		in := place(t, p, method, "")
		c, e := check.Begin(p, in.Entity, in.Method)
		if e != api.OK || c.Entity != in.Entity || c.Method != in.Method || len(c.Regions) > 0 || !slices.EqualFunc(c.Locals, want, isLocal) {
			t.Errorf("%s: %v, error %d", method, c, e)
		}
	}
	for _, x := range [][2]int{{-1, 0}, {len(p), 0}, {i, -1}, {i, len(p[i].Methods)}, {0, 0}} {
		c, e := check.Begin(p, x[0], x[1])
		b, f, e2 := check.Method(p, x[0], x[1])
		if e != api.ErrRange || e2 != api.ErrRange || len(c.Locals) > 0 || c.Entity != 0 || b.Entity != 0 || len(b.Types) > 0 {
			t.Errorf("%v: errors %d, %d", x, e, e2)
		}
		isFault(t, "no method", f, e2, check.Fault{}, api.ErrRange)
	}
	bad := notation.Program("class ref C\nfun tag a(x: U32 val; y: (this -> C ref); z: C ref) => seq\nfun box b(x: C ref)\nnew tag create(x: (this -> C ref))")
	bad[0].Methods[1].Params[0].Type = api.Type{}
	for j, want := range []api.Errno{api.ErrCap, api.ErrForm, api.OK} {
		if _, e := check.Begin(bad, 0, j); e != want {
			t.Errorf("method %d: error %d", j, e)
		}
	}
}

func isLocal(a, b check.Local) bool {
	return a.Name == b.Name && a.Param == b.Param && a.Always == b.Always && a.Region == b.Region && types.Equal(a.Type, b.Type)
}
