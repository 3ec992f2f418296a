package derive_test

import (
	"reflect"
	"slices"
	"strconv"
	"strings"
	"testing"

	"hackamore/api"
	"hackamore/check"
	"hackamore/derive"
	"hackamore/flow"
	"hackamore/notation"
	"hackamore/types"
)

// kinds reads types, of which `0` is the zero Type.
func kinds(s string) []api.Type {
	var l []api.Type
	for part := range strings.SplitSeq(s, ";") {
		switch part = strings.TrimSpace(part); part {
		case "":
		case "0":
			l = append(l, api.Type{})
		default:
			l = append(l, notation.Type(part))
		}
	}
	return l
}

// isFault holds a fault and an error against those that are wanted.
func isFault(t *testing.T, what string, f check.Fault, e api.Errno, want check.Fault, code api.Errno) {
	t.Helper()
	if e != code || f.Entity != want.Entity || f.Method != want.Method || !slices.Equal(f.Path, want.Path) {
		t.Errorf("%s: error %d at %v, want %d at %v", what, e, f, code, want)
	}
}

// fault returns a fault, the zero one for no error.
func fault(e api.Errno, entity, method int, path ...int) check.Fault {
	if e == api.OK {
		return check.Fault{}
	}
	return check.Fault{Entity: entity, Method: method, Path: path}
}

// scene is a program to whose class methods are added.
const scene = `
	interface tag Any
	primitive val None
	primitive val Bool
	primitive val U32
	fun box add(y: U32 val): U32 val
	fun box add_partial(y: U32 val): U32 val ?
	trait ref main.T
	fun box m(): U32 val
	fun box p(): U32 val
	class ref main.Cell is main.T ref
	var c: main.Cell ref
	new ref create(c': main.Cell ref) => (set.c this local.c')
	new ref risk(c': main.Cell ref) ? => (seq (set.c this local.c') (if lit.true{Bool val} error -))
	new ref sure(c': main.Cell ref) => (set.c this local.c')
	fun box get(): main.Cell box => (get.c this)
	fun box m(): U32 val => lit.1{U32 val}
	fun box p(): U32 val => lit.1{U32 val}
	class ref main.D
	fun box p(): U32 val ? => (seq (if lit.true{Bool val} error -) lit.1{U32 val})
`

// added returns the scene with a method more in the class Cell.
func added(method string) (p []api.Entity, entity, number int) {
	p = notation.Program(scene)
	p[5].Methods = append(p[5].Methods, notation.Method(method))
	return p, 5, len(p[5].Methods) - 1
}

// TestExample is the example of the chapter.
func TestExample(t *testing.T) {
	p := notation.Program(scene)
	c, _, e := check.Check(p)
	if e != api.OK {
		t.Fatalf("Check: error %d", e)
	}
	i := slices.IndexFunc(c.Bodies, func(b check.Body) bool { return b.Entity == 5 && b.Method == 3 })
	if !reflect.DeepEqual(c.Bodies[i].Types, kinds("main.Cell box; main.Cell box")) {
		t.Errorf("get: %v", c.Bodies[i])
	}
	f, e := derive.Verify(p, c)
	isFault(t, "the certificate", f, e, check.Fault{}, api.OK)
	for s, want := range map[string]api.Errno{"main.Cell tag": check.ErrResult, "main.Cell ref": derive.ErrClaim, "Any tag": check.ErrResult, "main.Cell box": api.OK} {
		d, e := derive.Weaker(c, i, 0, notation.Type(s))
		if e != api.OK {
			t.Fatalf("Weaker: error %d", e)
		}
		f, e = derive.Verify(p, d)
		isFault(t, s, f, e, fault(want, 5, 3), want)
	}
}

// TestBody is P14.1 for claimed types that follow, and those that do not.
func TestBody(t *testing.T) {
	for _, x := range []struct {
		method, claims string
		want           api.Errno
		path           []int
	}{
		{"fun box f(): U32 val => lit.1{U32 val}", "U32 val", api.OK, nil},
		{"fun box f(): U32 val => lit.1{U32 val}", "U32 box", check.ErrResult, nil},
		{"fun box f() => lit.1{U32 val}", "Any tag", api.OK, nil},
		{"fun box f() => lit.1{U32 val}", "(U32 val | None val)", api.OK, nil},
		{"fun box f(): None val => lit.1{U32 val}", "U32 val", api.OK, nil},
		{"fun box f(): None box => lit.1{U32 val}", "U32 val", check.ErrResult, nil},
		{"fun iso f(x: this): this => local.x", "this iso!", check.ErrResult, nil},
		{"fun iso f(x: this): this => consume.x", "this iso", api.OK, nil},
		{"fun box f() => lit.1{U32 val}", "0", derive.ErrClaim, nil},
		{"fun box f() => lit.1{U32 val}", "Bool val", derive.ErrClaim, nil},
		{"fun box f() => lit.1{U32 val}", "$A", derive.ErrClaim, nil},
		{"fun box f() => lit.1{U32 val}", "this", derive.ErrClaim, nil},
		{"fun box f() => lit.x{U32 val}", "U32 val", api.ErrForm, nil},
		{"fun box f(): U32 val ? => error", "0", api.OK, nil},
		{"fun box f(): U32 val ? => error", "U32 val", api.OK, nil},
		{"fun box f(): U32 val ? => error", "Bool val", check.ErrResult, nil},
		{"fun box f(): U32 val => (return lit.1{U32 val})", "$A; U32 val", check.ErrResult, nil},
		{"fun box f() => (return unit{None val})", "$A; None val", api.OK, nil},
		{"fun box f(): (U32 val | None val) => (if lit.true{Bool val} lit.1{U32 val} -)", "(None val | U32 val); Bool val; U32 val; 0", api.OK, nil},
		{"fun box f(): (U32 val | None val) => (if lit.true{Bool val} lit.1{U32 val} -)", "(U32 val | None val); Bool val; U32 val; 0", api.OK, nil},
		{"fun box f(): (U32 val | None val) => (if lit.true{Bool val} lit.1{U32 val} -)", "U32 val; Bool val; U32 val; 0", derive.ErrClaim, nil},
		{"fun box f() => (if lit.true{Bool val} lit.1{U32 val} -)", "(None val | U32 box); Bool val; U32 box; 0", api.OK, nil},
		{"fun box f() => (if lit.true{Bool val} lit.1{U32 val} -)", "(None val | U32 val); Bool box; U32 val; 0", api.ErrType, nil},
		{"fun box f() => (if lit.true{Bool val} lit.1{U32 val} -)", "(None val | U32 val); Bool val; U32 val; None val", derive.ErrClaim, []int{2}},
		{"fun box f() => (if lit.true{Bool val} lit.1{U32 val} -)", "Bool val; 0; U32 val; 0", derive.ErrClaim, []int{0}},
		{"fun box f() => (if lit.true{Bool val} lit.1{U32 val} -)", "Bool val; Bool val; Bool val; U32 val", derive.ErrClaim, []int{1}},
		{"fun box f() => (seq (if lit.1{U32 val} lit.1{U32 val} -) local.x)", "U32 val; U32 val; U32 val; U32 val; 0; U32 val", api.ErrType, []int{0}},
		{"fun box f(x: main.Cell ref): U32 val => (call.m local.x)", "U32 val; main.T box", api.OK, nil},
		{"fun box f(x: main.Cell ref): U32 val => (call.m local.x)", "U32 val; main.T tag", check.ErrView, nil},
		{"fun box f(x: main.Cell ref): U32 val => (call.m local.x)", "U32 val; Any tag", api.ErrNone, nil},
		{"fun box f(x: main.Cell iso): main.Cell iso => consume.x", "main.Cell iso", api.OK, nil},
		{"fun box f(x: main.Cell iso): main.Cell iso => consume.x", "main.Cell iso!", check.ErrResult, nil},
		{"fun box f(x: main.Cell iso): main.Cell iso => local.x", "main.Cell iso", derive.ErrClaim, nil},
		{"fun ref f(x: main.Cell ref): main.Cell ref => (set.c this local.x)", "main.Cell ref; main.Cell box; main.Cell ref", check.ErrView, nil},
		{"fun ref f(x: main.Cell ref): main.Cell ref => (set.c this local.x)", "main.Cell ref; main.Cell ref; main.Cell box", check.ErrResult, nil},
		{"fun ref f(x: main.Cell ref): main.Cell ref => (set.c this local.x)", "main.Cell ref; main.Cell ref; main.Cell ref", api.OK, nil},
		{"fun box f(x: main.D box): U32 val ? => (call.p local.x)", "U32 val; main.D box", api.OK, nil},
		{"fun box f(x: main.D box): U32 val => (call.p local.x)", "U32 val; main.D box", flow.ErrPartial, nil},
		{"fun box f(x: main.D box): U32 val => (seq (call.p local.x))", "U32 val; U32 val; main.D box", flow.ErrPartial, []int{0}},
		{"fun box f(x: main.Cell ref): main.Cell ref => (new.risk{main.Cell ref} local.x)", "main.Cell ref; main.Cell ref", flow.ErrPartial, nil},
		{"fun box f(x: main.Cell ref): main.Cell ref ? => (new.risk{main.Cell ref} local.x)", "main.Cell ref; main.Cell ref", api.OK, nil},
		{"fun box f(x: main.Cell ref): main.Cell ref => (new.sure{main.Cell ref} local.x)", "main.Cell ref; main.Cell ref", api.OK, nil},
		{"fun box f(x: main.Cell ref): main.Cell ref ? => (new.sure{main.Cell ref} local.x)", "main.Cell ref; main.Cell ref", flow.ErrPartial, nil},
		{"fun box f(): Bool val => (seq error lit.1{U32 val})", "U32 val; 0; U32 val", check.ErrResult, nil},
		{"fun box f() => (seq error lit.1{U32 val})", "U32 val; 0; U32 val", flow.ErrPartial, []int{0}},
	} {
		p, i, j := added(x.method)
		f, e := derive.Body(p, check.Body{Entity: i, Method: j, Types: kinds(x.claims)})
		isFault(t, x.method+" with "+x.claims, f, e, fault(x.want, i, j, x.path...), x.want)
	}
}

// TestContexts is P14.1 for the contexts of expressions, which are those of layer 13.
func TestContexts(t *testing.T) {
	for _, x := range []struct {
		method, claims string
		want           api.Errno
		path           []int
	}{
		{"fun ref f(x: main.Cell iso): main.Cell iso^ => (match consume.x (case.c{main.Cell iso} (is local.c this) consume.c) (case.d{main.Cell iso^} - consume.d))", "main.Cell iso^; main.Cell iso^; main.Cell iso^; Bool val; main.Cell iso!; main.Cell ref; main.Cell iso^; main.Cell iso^; 0; main.Cell iso^", api.OK, nil},
		{"fun ref f(x: main.Cell iso) => (match consume.x (case.c{main.Cell iso} (is consume.c this) seq))", "None val; main.Cell iso^; None val; Bool val; main.Cell iso^; main.Cell ref; None val", derive.ErrClaim, []int{1, 0, 0}},
		{"fun ref f(x: main.Cell iso) => (match consume.x (case.c{main.Cell iso} - (assign.c consume.c)))", "None val; main.Cell iso^; None val; 0; main.Cell iso; main.Cell iso^", check.ErrPlace, []int{1, 1}},
		{"fun ref f(x: main.Cell ref): U32 val => (match local.x (case.c{main.Cell ref} (seq (let.c{U32 val} lit.1{U32 val}) lit.true{Bool val}) local.c))", "(None val | U32 val); main.Cell ref; U32 val; Bool val; None val; U32 val; Bool val; U32 val", check.ErrResult, nil},
		{"fun ref f() => (seq (recover{this} (let.x{U32 val} lit.1{U32 val})) (recover{this} local.x))", "U32 val; None val; None val; U32 val; U32 val; U32 val", api.ErrScope, []int{1, 0}},
		{"fun ref f(): U32 val => (recover{this} (seq (let.x{U32 val} lit.1{U32 val}) (recover{this} local.x)))", "U32 val; U32 val; None val; U32 val; U32 val; U32 val", api.OK, nil},
		{"fun ref f(x: main.Cell ref): main.Cell iso^ => (recover{this} local.x)", "main.Cell iso^; main.Cell ref", check.ErrSend, []int{0}},
		{"fun ref f() => (let.x{U32 val} local.x)", "None val; U32 val", api.ErrScope, []int{0}},
		{"fun ref f() => (seq (var.x{U32 val} lit.1{U32 val}) (assign.x lit.2{U32 val}))", "U32 val; None val; U32 val; U32 val; U32 val", api.OK, nil},
		{"fun ref f() => (seq (var.x{U32 val} lit.1{U32 val}) (assign.x lit.2{U32 val}) consume.x)", "U32 val; None val; U32 val; U32 val; U32 val; U32 val", derive.ErrClaim, []int{1}},
		{"fun ref f() => (seq var.x{U32 val} (assign.x lit.2{U32 val}) lit.1{U32 val})", "U32 val; None val; U32 val; U32 val; U32 val", derive.ErrClaim, []int{1}},
		{"fun ref f() => (seq (var.x{U32 val} lit.1{U32 val}) (recover{this} (assign.x lit.2{U32 val})))", "U32 val; None val; U32 val; U32 val; U32 val; U32 val", check.ErrSend, []int{1, 0}},
	} {
		p, i, j := added(x.method)
		f, e := derive.Body(p, check.Body{Entity: i, Method: j, Types: kinds(x.claims)})
		isFault(t, x.method, f, e, fault(x.want, i, j, x.path...), x.want)
	}
}

// TestBodyErrors is P14.1 for the errors ahead of claims, in their order.
func TestBodyErrors(t *testing.T) {
	p, i, j := added("fun box f(): (U32 val | None val) => (if lit.true{Bool val} lit.1{U32 val} -)")
	good := kinds("(None val | U32 val); Bool val; U32 val; 0")
	with := func(n int, x api.Type) []api.Type {
		l := slices.Clone(good)
		l[n] = x
		return l
	}
	deep := notation.Type("U32 val")
	for range 20 {
		deep = api.Type{Kind: api.TypeTuple, Args: []api.Type{deep, deep}}
	}
	for _, x := range [][2]int{{-1, 0}, {len(p), 0}, {i, -1}, {i, j + 1}} {
		f, e := derive.Body(p, check.Body{Entity: x[0], Method: x[1], Types: good})
		isFault(t, "no method", f, e, check.Fault{}, api.ErrRange)
	}
	for n, x := range []struct {
		l    []api.Type
		want api.Errno
		path []int
	}{
		{good, api.OK, nil}, {good[:3], derive.ErrBodies, nil}, {append(slices.Clone(good), api.Type{}), derive.ErrBodies, nil}, {nil, derive.ErrBodies, nil}, {with(2, api.Type{Kind: 9})[:3], derive.ErrBodies, nil},
		{with(0, api.Type{Kind: 9}), api.ErrForm, nil}, {with(1, api.Type{Cap: api.Val}), api.ErrForm, []int{0}}, {with(2, deep), api.ErrSize, []int{1}}, {with(3, api.Type{Name: "x"}), api.ErrForm, []int{2}}, {with(3, api.Type{Args: slices.Repeat([]api.Type{deep}, 2)}), api.ErrForm, []int{2}}, {with(3, notation.Type("U32 val")), derive.ErrClaim, []int{2}},
		{append([]api.Type{{Kind: 9}, deep}, good[2:]...), api.ErrForm, nil}, {[]api.Type{{}, {}, deep, {Kind: 9}}, api.ErrSize, []int{1}},
	} {
		f, e := derive.Body(p, check.Body{Entity: i, Method: j, Types: x.l})
		isFault(t, "types "+strconv.Itoa(n), f, e, fault(x.want, i, j, x.path...), x.want)
	}
	p, i, j = added("fun tag f(x: (this -> main.Cell ref)) => (seq this.x)")
	f, e := derive.Body(p, check.Body{Entity: i, Method: j})
	isFault(t, "Begin", f, e, fault(api.ErrCap, i, j), api.ErrCap)
	p, i, j = added("fun box f() => (seq this this.x)")
	f, e = derive.Body(p, check.Body{Entity: i, Method: j})
	isFault(t, "Shape", f, e, fault(api.ErrForm, i, j, 1), api.ErrForm)
	p, i, j = added("fun tag f(): (this -> main.Cell ref) ? => error")
	f, e = derive.Body(p, check.Body{Entity: i, Method: j, Types: kinds("0")})
	isFault(t, "the result", f, e, fault(check.ErrResult, i, j), check.ErrResult)
	p, i, j = added("fun box f() => (if lit.true{Bool val} lit.1{U32 val} -)")
	p[i].Methods[j].Body.Kids[2].Text = "x"
	f, e = derive.Body(p, check.Body{Entity: i, Method: j, Types: good})
	isFault(t, "flow", f, e, fault(api.ErrForm, i, j), api.ErrForm)
}

// TestFirstMethod is P14.1 for the first method of the first entity.
func TestFirstMethod(t *testing.T) {
	p := notation.Program("class ref main.C\nfun box f() => seq\nprimitive val None")
	f, e := derive.Verify(p, check.Certificate{Bodies: []check.Body{{Types: kinds("None val")}}})
	isFault(t, "None", f, e, check.Fault{}, api.OK)
	f, e = derive.Verify(p, check.Certificate{Bodies: []check.Body{{Types: kinds("0")}}})
	isFault(t, "no value", f, e, fault(derive.ErrClaim, 0, 0), derive.ErrClaim)
}

// TestNoBody is P14.1 for methods without a body.
func TestNoBody(t *testing.T) {
	p, i, j := added("fun box f(): (this -> (main.Cell ref & main.T box))")
	p[i].Methods[j].Body = api.Expr{Text: "x", Kids: []api.Expr{{Op: 99}}}
	for s, want := range map[string]api.Errno{"": api.OK, "0": api.OK, "0; 0": derive.ErrBodies, "U32 val": derive.ErrBodies} {
		f, e := derive.Body(p, check.Body{Entity: i, Method: j, Types: kinds(s)})
		isFault(t, "no body with "+s, f, e, fault(want, i, j), want)
	}
	f, e := derive.Body(p, check.Body{Entity: i, Method: j, Types: []api.Type{{Cap: api.Ref}}})
	isFault(t, "a type that is none", f, e, fault(derive.ErrBodies, i, j), derive.ErrBodies)
}

// TestVerify is P14.1 and P14.5 for whole certificates.
func TestVerify(t *testing.T) {
	p := notation.Program(scene)
	c, _, _ := check.Check(p)
	bodies := func(l ...check.Body) check.Certificate { return check.Certificate{Bodies: l} }
	swapped := slices.Clone(c.Bodies)
	swapped[0], swapped[1] = swapped[1], swapped[0]
	for i, d := range []check.Certificate{{}, bodies(c.Bodies[1:]...), bodies(c.Bodies[:len(c.Bodies)-1]...), bodies(append(slices.Clone(c.Bodies), c.Bodies[0])...), bodies(append(slices.Clone(c.Bodies), check.Body{Entity: 4})...), bodies(swapped...), bodies(append(slices.Clone(c.Bodies[:2]), c.Bodies[1:]...)...)} {
		f, e := derive.Verify(p, d)
		isFault(t, "bodies "+strconv.Itoa(i), f, e, check.Fault{}, derive.ErrBodies)
	}
	d := bodies(slices.Clone(c.Bodies)...)
	d.Bodies[2].Types, d.Bodies[4].Types = nil, nil
	f, e := derive.Verify(p, d)
	isFault(t, "the first error", f, e, fault(derive.ErrBodies, 5, 2), derive.ErrBodies)
	d.Bodies[2].Types = c.Bodies[2].Types
	f, e = derive.Verify(p, d)
	isFault(t, "the second error", f, e, fault(derive.ErrBodies, 5, 4), derive.ErrBodies)
	p[6].Methods[0].Kind = 0
	f, e = derive.Verify(p, check.Certificate{})
	isFault(t, "the program", f, e, fault(api.ErrForm, 6, 0), api.ErrForm)
	f, e = derive.Verify(make([]api.Entity, 201), c)
	isFault(t, "too many entities", f, e, check.Fault{Method: -1}, api.ErrSize)
	f, e = derive.Verify(nil, check.Certificate{})
	isFault(t, "no program", f, e, check.Fault{}, api.OK)
}

// TestCodes is P14.1 for the codes and the limit of the layer.
func TestCodes(t *testing.T) {
	if derive.ErrClaim != 160 || derive.ErrBodies != 161 || derive.MaxText != 1000000 {
		t.Errorf("%d, %d, %d", derive.ErrClaim, derive.ErrBodies, derive.MaxText)
	}
}

// TestWeaker is P14.1 and P14.4 for Weaker.
func TestWeaker(t *testing.T) {
	c := check.Certificate{Bodies: []check.Body{{Entity: 3, Types: kinds("U32 val; 0")}, {Method: 4}, {Types: kinds("(U32 val, U32 val)")}}}
	tag := notation.Type("Any tag")
	for _, x := range [][2]int{{-1, 0}, {3, 0}, {0, -1}, {0, 2}, {1, 0}} {
		d, e := derive.Weaker(c, x[0], x[1], api.Type{Kind: 9})
		if e != api.ErrRange || len(d.Bodies) > 0 {
			t.Errorf("%v: error %d", x, e)
		}
	}
	for _, x := range []struct {
		t    api.Type
		want api.Errno
	}{{tag, api.OK}, {api.Type{}, api.OK}, {api.Type{Kind: 9}, api.ErrForm}, {api.Type{Mark: 1}, api.ErrForm}, {api.Type{Args: make([]api.Type, 400)}, api.ErrForm}, {api.Type{Kind: api.TypeTuple, Args: make([]api.Type, 400)}, api.ErrSize}, {notation.Type("$A"), api.OK}} {
		d, e := derive.Weaker(c, 0, 1, x.t)
		if e != x.want || e != api.OK && len(d.Bodies) > 0 {
			t.Errorf("%v: error %d", x.t, e)
		}
		if e == api.OK && (!types.Equal(d.Bodies[0].Types[1], x.t) || !reflect.DeepEqual(d.Bodies[0].Types[0], c.Bodies[0].Types[0]) || len(d.Bodies) != 3 || d.Bodies[0].Entity != 3 || !reflect.DeepEqual(d.Bodies[2], c.Bodies[2])) {
			t.Errorf("%v: %v", x.t, d)
		}
	}
	d, _ := derive.Weaker(c, 2, 0, c.Bodies[2].Types[0])
	if !reflect.DeepEqual(c, d) {
		t.Errorf("the claimed type changes %v", d)
	}
	d.Bodies[2].Types[0].Args[0], d.Bodies[0].Types[0] = tag, tag
	if !reflect.DeepEqual(c.Bodies[2].Types, kinds("(U32 val, U32 val)")) || !reflect.DeepEqual(c.Bodies[0].Types, kinds("U32 val; 0")) {
		t.Error("the argument is changed")
	}
}
