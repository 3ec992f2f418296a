package generic_test

import (
	"reflect"
	"slices"
	"strconv"
	"strings"
	"testing"

	"hackamore/api"
	"hackamore/generic"
	"hackamore/types"
)

const (
	iso, trn, ref, val, box, tag = api.Iso, api.Trn, api.Ref, api.Val, api.Box, api.Tag
)

func read(t *testing.T, s string) api.Type {
	t.Helper()
	x, e := types.Parse(s)
	if e != api.OK {
		t.Fatalf("%s: error %d", s, e)
	}
	return x
}

func readAll(t *testing.T, s string) []api.Type {
	t.Helper()
	var l []api.Type
	for _, part := range strings.Split(s, "; ") {
		if s != "" {
			l = append(l, read(t, part))
		}
	}
	return l
}

// bounds reads type parameters with their constraints; a set of capabilities may stand in the place of one.
func bounds(t *testing.T, s string) []api.Bound {
	t.Helper()
	var l []api.Bound
	for _, part := range strings.Split(s, "; ") {
		if s == "" {
			break
		}
		name, typ, _ := strings.Cut(part, ": ")
		if typ == "" {
			typ = "Any #any"
		}
		before, set, ok := strings.Cut(typ, " #")
		b := api.Bound{Name: name}
		if ok {
			b.Type = read(t, before+" ref")
			b.Type.Cap = map[string]int{"read": 7, "send": 8, "share": 9, "alias": 10, "any": 11}[set]
		} else {
			b.Type = read(t, typ)
		}
		l = append(l, b)
	}
	return l
}

func entity(t *testing.T, kind int, name, params, provides string, methods ...api.Method) api.Entity {
	t.Helper()
	return api.Entity{Kind: kind, Name: name, Cap: ref, Bounds: bounds(t, params), Provides: readAll(t, provides), Methods: methods}
}

// fun returns a function from the texts of its parameters' types and its result.
func fun(t *testing.T, name, params, result string, body ...api.Expr) api.Method {
	t.Helper()
	m := api.Method{Kind: api.Fun, Name: name, Cap: box}
	for i, x := range readAll(t, params) {
		m.Params = append(m.Params, api.Param{Name: "p" + strconv.Itoa(i), Type: x})
	}
	if result != "" {
		m.Result = read(t, result)
	}
	if len(body) > 0 {
		m.Body = body[0]
	}
	return m
}

// generically gives a method type parameters.
func generically(t *testing.T, m api.Method, params string) api.Method {
	t.Helper()
	m.Bounds = bounds(t, params)
	return m
}

func with(kind int, m api.Method) api.Method {
	m.Kind = kind
	return m
}

// unit returns a body that mentions types.
func unit(t *testing.T, s string) api.Expr {
	t.Helper()
	return api.Expr{Op: api.OpUnit, Types: readAll(t, s)}
}

func call(t *testing.T, name, args string) api.Expr {
	t.Helper()
	return api.Expr{Op: api.OpCall, Text: name, Types: readAll(t, args), Kids: []api.Expr{{Op: api.OpThis}}}
}

func seq(l ...api.Expr) api.Expr { return api.Expr{Op: api.OpSeq, Kids: l} }

func typ(t api.Type) string {
	if t.Kind == 0 {
		return "-"
	}
	s, e := types.Text(t)
	if e != api.OK {
		return "error " + e.Error()
	}
	return s
}

func list(l []api.Type) string {
	var out []string
	for _, t := range l {
		out = append(out, typ(t))
	}
	return strings.Join(out, "; ")
}

// expr shows a body.
func expr(x api.Expr) string {
	out := strconv.Itoa(x.Op) + x.Text
	if len(x.Types) > 0 {
		out += "<" + list(x.Types) + ">"
	}
	for _, k := range x.Kids {
		out += " (" + expr(k) + ")"
	}
	return out
}

// method shows a method on one line.
func method(m api.Method) string {
	out := strings.Fields("? new fun be")[m.Kind] + " " + m.Name
	for _, b := range m.Bounds {
		out += " " + b.Name + ": " + typ(b.Type)
	}
	out += "("
	for i, p := range m.Params {
		if i > 0 {
			out += "; "
		}
		out += typ(p.Type)
	}
	out += ") " + typ(m.Result)
	if m.Body.Op != 0 {
		out += " => " + expr(m.Body)
	}
	return out
}

// show shows an entity on some lines.
func show(x api.Entity) string {
	out := x.Name
	for _, b := range x.Bounds {
		out += " " + b.Name + ": " + typ(b.Type)
	}
	if len(x.Provides) > 0 {
		out += " is " + list(x.Provides)
	}
	for _, f := range x.Fields {
		out += "\n " + f.Name + " " + typ(f.Type)
	}
	for _, m := range x.Methods {
		out += "\n " + method(m)
	}
	return out
}

func showAll(p []api.Entity) string {
	var out []string
	for _, x := range p {
		out = append(out, show(x))
	}
	return strings.Join(out, "\n")
}

func is(t *testing.T, what, want, got string) {
	t.Helper()
	if got != want {
		t.Errorf("%s:\n%s\nwant:\n%s", what, got, want)
	}
}

// base returns a program that others are made of.
func base(t *testing.T) []api.Entity {
	t.Helper()
	return []api.Entity{
		entity(t, api.Interface, "Any", "", ""),
		entity(t, api.Primitive, "U32", "", "", fun(t, "string", "", "String val")),
		entity(t, api.Class, "String", "", ""),
		entity(t, api.Interface, "Stringable", "", "", fun(t, "string", "", "String val")),
		entity(t, api.Trait, "T", "A", ""),
		entity(t, api.Class, "C", "", "T[U32 val] ref"),
	}
}

// tooLarge returns programs that exceed a limit, and such that just do not.
func tooLarge(t *testing.T) (wrong, right [][]api.Entity) {
	t.Helper()
	tall := api.Expr{Op: api.OpRecover}
	for range 99 {
		tall = api.Expr{Op: api.OpRecover, Kids: []api.Expr{tall}}
	}
	for _, n := range []int{0, 1} {
		l := make([]api.Entity, 200+n)
		for i := range l {
			l[i].Name = "E" + strconv.Itoa(i)
		}
		body := tall
		if n == 1 {
			body = seq(tall)
		}
		both := [][]api.Entity{
			l,
			{{Name: "E", Bounds: make([]api.Bound, 64+n)}},
			{{Name: "E", Provides: make([]api.Type, 64+n)}},
			{{Name: "E", Fields: make([]api.Field, 64+n)}},
			{{Name: "E", Methods: make([]api.Method, 64+n)}},
			{{Name: "X"}, {Name: "E", Methods: []api.Method{{}, {Bounds: make([]api.Bound, 64+n)}}}},
			{{Name: "E", Methods: []api.Method{{Params: make([]api.Param, 64+n)}}}},
			{{Name: "E", Methods: []api.Method{{Body: seq(make([]api.Expr, 3999+n)...)}}}},
			{{Name: "E", Methods: []api.Method{{Body: body}}}},
		}
		if n == 0 {
			right = both
		} else {
			wrong = both
		}
	}
	return wrong, right
}

// TestSizes is P10.1 for programs that are too large: this comes ahead of everything else.
func TestSizes(t *testing.T) {
	wrong, right := tooLarge(t)
	ask := func(p []api.Entity) []api.Errno {
		_, _, e1 := generic.Find(p, "?", "?")
		_, e2 := generic.Instance(p, "?", []api.Type{{}})
		_, e3 := generic.Reify(p, "?")
		return []api.Errno{generic.Fulfils(p, nil, []api.Type{{}}), e1, e2, e3}
	}
	for i, p := range wrong {
		l, e := generic.Whole(p)
		edges, e2 := generic.Edges(p)
		_, grow, e3 := generic.Ends(p)
		if len(l)+len(edges)+len(grow) > 0 || !slices.Equal(append(ask(p), e, e2, e3), slices.Repeat([]api.Errno{api.ErrSize}, 7)) {
			t.Errorf("program %d: errors %v, %d, %d, %d", i, ask(p), e, e2, e3)
		}
	}
	for i, p := range right {
		if got := ask(p); !slices.Equal(got, []api.Errno{api.ErrArg, api.ErrNone, api.ErrNone, api.ErrNone}) {
			t.Errorf("program %d: errors %v", i, got)
		}
	}
}

// TestFulfils is P10.1 for constraints.
func TestFulfils(t *testing.T) {
	p := base(t)
	for _, x := range []struct {
		bounds, args string
		want         api.Errno
	}{
		{"", "", api.OK}, {"A", "", api.ErrArg}, {"", "U32 val", api.ErrArg}, {"A", "U32 val; $B", api.ErrArg},
		{"A: Any #any", "C iso^", api.OK}, {"A: Any #any", "(C ref | U32 val)", api.OK}, {"A: Any #any", "(this ref -> C ref)", generic.ErrBound},
		{"A: Any #read", "C ref", api.OK}, {"A: Any #read", "C iso", generic.ErrBound}, {"A: Any #read", "C trn!", api.OK}, {"A: Any #send", "C iso!", api.OK}, {"A: Any #send", "C ref", generic.ErrBound},
		{"A: Any #share", "C iso!", api.OK}, {"A: Any #share", "C iso", generic.ErrBound}, {"A: Any #alias", "C trn", generic.ErrBound}, {"A: Any #alias", "C ref", api.OK},
		{"A: Any #share", "(C val | C ref)", generic.ErrBound}, {"A: Any #share", "this", generic.ErrBound}, {"A: Stringable #any", "U32 val", api.OK}, {"A: Stringable #any", "U32 tag", api.OK}, {"A: Stringable #any", "C val", generic.ErrBound},
		{"A: Stringable box", "U32 val", api.OK}, {"A: Stringable box", "U32 tag", generic.ErrBound}, {"A: C ref", "C iso^", api.OK},
		{"A; B: T[$A] #any", "U32 val; C tag", api.OK}, {"A; B: T[$A] #any", "U32 ref; C ref", generic.ErrBound}, {"A; B: T[$A] box", "U32 val; C ref", api.OK}, {"A: T[$B] box; B", "C ref; U32 val", api.OK}, {"A: $B; B", "U32 val; U32 val", api.OK}, {"A: $B; B", "U32 val; C val", generic.ErrBound},
		{"A; A: T[$A] box", "U32 val; C ref", api.OK}, {"A: C ref; B: (($C -> C ref) | C ref); C", "C ref; C ref; (C ref | C ref)", api.ErrForm}, {"A: C val; B: (($C -> C ref) | C ref); C", "C ref; C ref; (C ref | C ref)", generic.ErrBound},
		{"A: Any #any; B", "C ref; $B", generic.ErrUnbound}, {"A: Any #read; B", "C iso; T[$B] ref", generic.ErrUnbound},
		{"A: Any #read; B: Any #any", "C iso; C ref", generic.ErrBound},
	} {
		if e := generic.Fulfils(p, bounds(t, x.bounds), readAll(t, x.args)); e != x.want {
			t.Errorf("[%s] by %s: error %d, want %d", x.bounds, x.args, e, x.want)
		}
	}
	wrong := types.Named("A", 9, nil)
	if e := generic.Fulfils(p, bounds(t, "A; B; C"), []api.Type{read(t, "$B"), wrong, types.Named("A", ref, make([]api.Type, 300))}); e != api.ErrForm {
		t.Errorf("a wrong argument: error %d", e)
	}
	if e := generic.Fulfils(p, []api.Bound{{Name: "A", Type: api.Type{Kind: 2, Name: "A", Cap: 11}}}, readAll(t, "C ref")); e != api.ErrForm {
		t.Errorf("a set at a type parameter: error %d", e)
	}
	if e := generic.Fulfils(p, []api.Bound{{Name: "A", Type: types.Named("", 11, nil)}}, readAll(t, "C ref")); e != api.ErrForm {
		t.Errorf("a set at a wrong name: error %d", e)
	}
	if e := generic.Fulfils(p, []api.Bound{{Name: "A", Type: types.Named("", 9, nil)}}, readAll(t, "C ref")); e != generic.ErrBound {
		t.Errorf("a wrong name behind a set: error %d", e)
	}
	if e := generic.Fulfils(p, []api.Bound{{Name: "A", Type: types.Named("C", 12, nil)}}, readAll(t, "C ref")); e != api.ErrForm {
		t.Errorf("no capability: error %d", e)
	}
}

// TestNamed is P10.1 for names.
func TestNamed(t *testing.T) {
	for _, x := range []struct{ name, args, want string }{
		{"main.Cell", "", "main.Cell"}, {"", "", ""}, {"main.Cell", "U32 val^", "main.Cell[U32 val]"}, {"f", "(B ref | A ref); (this -> C iso!)", "f[(A ref | B ref), (this -> C iso!)]"},
		{"f", "$A", "123"}, {"f", "C[$A] ref", "123"}, {"f", "(this val -> $A)", "123"}, {"f", "(this tag -> C ref)", "13"}, {"f", "(this tag -> C ref); $A", "13"}, {"f", "$A; (this tag -> C ref)", "123"},
		{strings.Repeat("x", 292), "C ref", strings.Repeat("x", 292) + "[C ref]"}, {strings.Repeat("x", 294), "C ref", "16"}, {strings.Repeat("x", 300), "", strings.Repeat("x", 300)}, {strings.Repeat("x", 301), "", "16"}, {strings.Repeat("x", 301), "$A", "123"},
	} {
		got, e := generic.Named(x.name, readAll(t, x.args))
		if e != api.OK {
			if got != "" {
				t.Errorf("Named with an error: %s", got)
			}
			got = e.Error()
		}
		is(t, "Named of "+x.name, x.want, got)
	}
	if _, e := generic.Named("f", []api.Type{types.Named("A", 0, []api.Type{read(t, "$A")}), read(t, "$A")}); e != api.ErrForm {
		t.Errorf("a wrong type: error %d", e)
	}
}

// TestFind is P10.1 for the selection of methods.
func TestFind(t *testing.T) {
	one, two := unit(t, "U32 val"), unit(t, "C ref")
	p := append(base(t),
		entity(t, api.Trait, "A", "X", "", fun(t, "f", "$X", "", unit(t, "$X")), fun(t, "g", "", ""), fun(t, "h", "", "", one), with(api.New, fun(t, "n", "", "", one)), with(api.Be, fun(t, "b", "", "", one))),
		entity(t, api.Trait, "B", "", "", fun(t, "h", "", "", two), fun(t, "g", "", "C ref")),
		entity(t, api.Trait, "D", "", "B ref", fun(t, "h", "", "", one)),
		entity(t, api.Class, "E", "", "A[C ref] ref", fun(t, "f", "C val", ""), fun(t, "own", "", "")),
		entity(t, api.Class, "F", "", "A[C ref] ref; B ref"),
		entity(t, api.Class, "G", "", "B ref; D ref"),
		entity(t, api.Class, "H", "", "D ref; B ref; A[(C ref | C ref)] ref", fun(t, "h", "", "", two)),
		entity(t, api.Trait, "I", "", "A[(C ref | C ref)] ref; B ref"),
		entity(t, api.Trait, "J", "", "D ref; B ref"),
		entity(t, api.Class, "K", "", "W[(C ref | C ref)] ref; A[C ref] ref"),
		entity(t, api.Trait, "W", "X", "", fun(t, "f", "($X -> C ref)", "", one), fun(t, "f", "$X", "", two)),
		entity(t, api.Class, "L", "Y", "A[$Y] ref"),
		entity(t, api.Class, "E", "", "", fun(t, "z", "", "")))
	for _, x := range []struct{ entity, name, want, from string }{
		{"E", "f", "fun f(C val) - => 26<C ref>", "A"}, {"E", "own", "fun own() -", "E"}, {"E", "g", "122", ""}, {"E", "h", "fun h() - => 26<U32 val>", "A"}, {"E", "n", "122", ""}, {"E", "b", "be b() - => 26<U32 val>", "A"}, {"E", "z", "122", ""},
		{"F", "h", "122", ""}, {"F", "f", "fun f(C ref) - => 26<C ref>", "A"},
		{"G", "h", "122", ""}, {"J", "h", "fun h() - => 26<U32 val>", "D"}, {"H", "h", "fun h() - => 26<C ref>", "H"},
		{"I", "g", "fun g() -", "A"}, {"I", "x", "122", ""}, {"I", "h", "122", ""}, {"A", "g", "fun g() -", "A"}, {"A", "n", "new n() - => 26<U32 val>", "A"},
		{"K", "f", "122", ""}, {"L", "f", "fun f($Y) - => 26<$Y>", "A"}, {"X", "f", "5", ""}, {"", "", "5", ""},
	} {
		m, from, e := generic.Find(p, x.entity, x.name)
		got := method(m)
		if e != api.OK {
			if !reflect.DeepEqual(m, api.Method{}) {
				t.Errorf("%s.%s: %v with an error", x.entity, x.name, m)
			}
			got = e.Error()
		}
		is(t, x.entity+"."+x.name, x.want, got)
		is(t, "where "+x.entity+"."+x.name+" is", x.from, from)
	}
	long := []api.Entity{{Kind: api.Class, Name: strings.Repeat("x", 301), Methods: []api.Method{fun(t, "f", "", "", one)}}}
	if _, _, e := generic.Find(long, long[0].Name, "f"); e != api.ErrForm {
		t.Errorf("a long name: error %d", e)
	}
	if _, e := generic.Whole(long); e != api.ErrForm {
		t.Errorf("Whole of a long name: error %d", e)
	}
	long[0].Kind = api.Trait
	if l, e := generic.Whole(long); e != api.OK || len(l) != 1 {
		t.Errorf("Whole of a trait with a long name: error %d", e)
	}
}

// TestWhole is P10.1 for Whole.
func TestWhole(t *testing.T) {
	one, two := unit(t, "U32 val"), unit(t, "C ref")
	traits := []api.Entity{
		entity(t, api.Trait, "A", "X", "", fun(t, "f", "$X", "", unit(t, "$X")), fun(t, "h", "", "", one), with(api.New, fun(t, "n", "", "", one))),
		entity(t, api.Trait, "B", "", "", fun(t, "k", "", "", two), with(api.Be, fun(t, "b", "", "", two)), fun(t, "h", "", "")),
	}
	p := append(slices.Clone(traits),
		entity(t, api.Class, "C", "Y", "A[$Y] ref; B ref", with(api.New, fun(t, "f", "", "")), fun(t, "h", "", "C val"), fun(t, "h", "", "D val"), fun(t, "own", "", "")),
		entity(t, api.Class, "C", "", "A[U32 val] ref", fun(t, "g", "", "")),
		entity(t, api.Actor, "D", "", "B ref"))
	l, e := generic.Whole(p)
	if e != generic.ErrMethod {
		t.Errorf("a method without a body: error %d", e)
	}
	p[4].Methods = []api.Method{fun(t, "h", "", "")}
	l, e = generic.Whole(p)
	want := showAll(p[:2]) + `
C Y: error 2 is A[$Y] ref; B ref
 new f() -
 fun h() C val => 26<U32 val>
 fun h() D val => 26<U32 val>
 fun own() -
 fun k() - => 26<C ref>
 be b() - => 26<C ref>
C is A[U32 val] ref
 fun g() -
D is B ref
 fun h() -
 fun k() - => 26<C ref>
 be b() - => 26<C ref>`
	is(t, "Whole", want, showAll(l))
	if e != api.OK {
		t.Errorf("Whole: error %d", e)
	}
	p = append(p, entity(t, api.Class, "E", "", "A[U32 val] ref; F ref"), entity(t, api.Trait, "F", "", "", fun(t, "h", "", "", two)))
	if l, e := generic.Whole(p); e != generic.ErrMethod || len(l) > 0 {
		t.Errorf("two defaults: error %d", e)
	}
}

// TestInstance is P10.1 for instances and variants.
func TestInstance(t *testing.T) {
	p := append(base(t), entity(t, api.Class, "Cell", "A; B: T[$A] #any", "T[$A] ref; $B", fun(t, "f", "$A!", "(this -> $B)", unit(t, "Cell[$B, $A] ref")), with(api.New, fun(t, "create", "", ""))))
	p[6].Fields = []api.Field{{Name: "x", Let: true, Type: read(t, "$A iso")}}
	p = append(p, entity(t, api.Class, "Cell", "", ""), entity(t, api.Class, "Wrong", "A", "($A -> C ref)"), entity(t, api.Class, strings.Repeat("x", 294), "A", "($A -> C ref)"))
	p[8].Fields = []api.Field{{Type: types.Named("A", ref, make([]api.Type, 300))}}
	x, e := generic.Instance(p, "Cell", readAll(t, "U32 val^; C iso^"))
	is(t, "an instance", `Cell[U32 val, C iso^] is T[U32 val^] ref; C iso^
 x U32 iso
 fun f(U32 val) (this -> C iso^) => 26<Cell[C iso^, U32 val^] ref>
 new create() -`, show(x))
	if e != api.OK || x.Kind != api.Class || x.Cap != ref || !x.Fields[0].Let || len(x.Bounds) > 0 {
		t.Errorf("an instance: %v, error %d", x, e)
	}
	for _, y := range []struct {
		name, args string
		want       api.Errno
	}{
		{"X", "$A", api.ErrNone}, {"Cell", "", api.ErrArg}, {"Cell", "U32 val; $A", generic.ErrUnbound}, {"Cell", "U32 ref; C ref", generic.ErrBound}, {"U32", "", api.OK},
		{"Wrong", "(C ref | C ref)", api.ErrForm}, {"Wrong", "C ref", api.ErrSize}, {strings.Repeat("x", 294), "(C ref | C ref)", api.ErrLarge}, {"Wrong", "(this tag -> C ref)", generic.ErrBound}, {"Wrong", "Cell[(this tag -> C ref), C ref] ref", api.ErrCap},
	} {
		x, e := generic.Instance(p, y.name, readAll(t, y.args))
		if e != y.want || e != api.OK && !reflect.DeepEqual(x, api.Entity{}) {
			t.Errorf("Instance of %s and %s: error %d, want %d", y.name, y.args, e, y.want)
		}
	}
	m := generically(t, fun(t, "f", "$A", "$B!", unit(t, "($A -> $C)")), "A; B: Stringable box")
	v, e := generic.Variant(m, readAll(t, "C iso; C iso"))
	is(t, "a variant", "fun f[C iso, C iso](C iso) C iso! => 26<(this iso -> $C)>", method(v))
	if e != api.OK || v.Cap != box {
		t.Errorf("a variant: %v, error %d", v, e)
	}
	large := m
	large.Params = make([]api.Param, 65)
	long := m
	long.Name = strings.Repeat("x", 300)
	for i, y := range []struct {
		m    api.Method
		args []api.Type
		want api.Errno
	}{
		{large, nil, api.ErrSize}, {m, readAll(t, "$A"), api.ErrArg}, {m, []api.Type{{}, types.Named("A", ref, make([]api.Type, 300))}, api.ErrForm}, {m, append(readAll(t, "$A"), api.Type{}), api.ErrForm}, {long, readAll(t, "$A; C ref"), generic.ErrUnbound},
		{long, readAll(t, "(C ref | C ref); C ref"), api.ErrLarge}, {m, readAll(t, "(C ref | C ref); C ref"), api.ErrForm}, {fun(t, "f", "$A", ""), nil, api.OK}, {long, nil, api.ErrArg},
	} {
		v, e := generic.Variant(y.m, y.args)
		if e != y.want || e != api.OK && !reflect.DeepEqual(v, api.Method{}) {
			t.Errorf("variant %d: error %d, want %d", i, e, y.want)
		}
	}
}
