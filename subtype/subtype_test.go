package subtype_test

import (
	"reflect"
	"slices"
	"strconv"
	"strings"
	"testing"

	"hackamore/api"
	"hackamore/draw"
	"hackamore/subtype"
	"hackamore/types"
)

const (
	iso, trn, ref, val, box, tag = api.Iso, api.Trn, api.Ref, api.Val, api.Box, api.Tag
)

func read(t *testing.T, s string) api.Type {
	t.Helper()
	x, e := types.Parse(s)
	if e != api.OK {
		t.Fatalf("%s: error %d", s, e)
	}
	return x
}

func shown(x api.Type) string {
	s, e := types.Text(x)
	if e != api.OK {
		return "error " + e.Error()
	}
	return s
}

// fun returns a function from the texts of its parameters' types and its result.
func fun(t *testing.T, name string, c int, params, result string) api.Method {
	t.Helper()
	m := api.Method{Kind: api.Fun, Name: name, Cap: c}
	for i, s := range strings.Split(params, "; ") {
		if params != "" {
			m.Params = append(m.Params, api.Param{Name: "p" + strconv.Itoa(i), Type: read(t, s)})
		}
	}
	if result != "" {
		m.Result = read(t, result)
	}
	return m
}

func entity(t *testing.T, kind int, name, bounds, provides string, methods ...api.Method) api.Entity {
	t.Helper()
	x := api.Entity{Kind: kind, Name: name, Cap: ref, Methods: methods}
	for _, s := range strings.Fields(bounds) {
		x.Bounds = append(x.Bounds, api.Bound{Name: s, Type: types.Named("Any", api.CapAny, nil)})
	}
	for _, s := range strings.Split(provides, "; ") {
		if provides != "" {
			x.Provides = append(x.Provides, read(t, s))
		}
	}
	return x
}

// example returns the program of the chapter's example.
func example(t *testing.T) []api.Entity {
	t.Helper()
	m := fun(t, "m", box, "", "U32 val")
	return []api.Entity{
		entity(t, api.Primitive, "U32", "", ""),
		entity(t, api.Trait, "T", "", ""),
		entity(t, api.Interface, "I", "", "", m),
		entity(t, api.Class, "C", "", "T ref", m),
	}
}

// show writes the rules of a derivation.
func show(d subtype.Proof) string {
	name := strings.Fields("? Super Structure Assumed UnionAll BothAll UnionOne BothOne Tuple Param")[d.Rule]
	if d.N > 0 {
		name += strconv.Itoa(d.N)
	}
	if len(d.Kids) == 0 {
		return name
	}
	var l []string
	for _, k := range d.Kids {
		l = append(l, show(k))
	}
	return name + "(" + strings.Join(l, " ") + ")"
}

// ways asks for derivations: texts of two types with their rules, or `-` for no.
func ways(t *testing.T, p []api.Entity, questions map[string]string) {
	t.Helper()
	for q, want := range questions {
		left, right, _ := strings.Cut(q, " <: ")
		a, b := read(t, left), read(t, right)
		d, e := subtype.Derive(p, a, b)
		got := "-"
		if e == api.OK {
			got = show(d)
			if e := subtype.Check(p, d); e != api.OK || !types.Equal(d.A, a) || !types.Equal(d.B, b) {
				t.Errorf("%s: Check: error %d", q, e)
			}
		} else if e != api.ErrNone || !reflect.DeepEqual(d, subtype.Proof{}) {
			t.Errorf("%s: error %d", q, e)
		}
		if got != want {
			t.Errorf("%s: %s, want %s", q, got, want)
		}
		if subtype.Is(p, a, b) != (e == api.OK) || subtype.Same(p, a, b) != (subtype.Is(p, a, b) && subtype.Is(p, b, a)) {
			t.Errorf("%s: Is is otherwise", q)
		}
		if e == api.OK && !subtype.Bare(p, a, b) {
			t.Errorf("%s: Bare is not", q)
		}
	}
}

// TestExample is the chapter's example, and P9.1 for the rules.
func TestExample(t *testing.T) {
	p := example(t)
	ways(t, p, map[string]string{
		"C ref <: T box":                                 "Super1",
		"C ref <: I box":                                 "Structure(Super)",
		"C ref <: (I val | I box)":                       "UnionOne1(Structure(Super))",
		"C ref <: I val":                                 "-",
		"C ref <: C box":                                 "Super",
		"C iso^ <: C ref":                                "Super",
		"C iso <: C ref":                                 "-",
		"(C ref | C val) <: T box":                       "UnionAll(Super1 Super1)",
		"(C ref | I ref) <: T box":                       "-",
		"C ref <: (T box & I box)":                       "BothAll(Super1 Structure(Super))",
		"(T ref & C ref) <: (C box | I val)":             "UnionOne(BothOne1(Super))",
		"((T ref | T val) & U32 val) <: (T box | C box)": "UnionOne(BothOne(UnionAll(Super Super)))",
		"((T ref | C val) & U32 val) <: (T ref | C box)": "BothOne(UnionAll(UnionOne(Super) UnionOne1(Super)))",
		"(T ref & C ref) <: I box":                       "BothOne1(Structure(Super))",
		"(C ref, $A) <: (T box, $A)":                     "Tuple(Super1 Param)",
		"(C ref, $A) <: (T box, $B)":                     "-",
		"(C ref, C ref) <: (C ref, C ref, C ref)":        "-",
		"(C ref, C ref) <: C ref":                        "-",
		"$A iso^ <: $A iso":                              "Param",
		"$A iso <: $A iso^":                              "-",
		"$A ref <: $A box":                               "-",
		"$A^ <: $A^":                                     "Param",
		"$A^ <: $A":                                      "-",
		"this <: this":                                   "Param",
		"this! <: this":                                  "-",
		"this ref <: this box":                           "Param",
		"this <: this box":                               "-",
		"this box <: this":                               "-",
		"(this -> $A) <: (this -> $A)":                   "Param",
		"(this -> $A) <: (this -> $B)":                   "-",
		"X ref <: X tag":                                 "Super",
		"X[C ref] ref <: X[C ref] tag":                   "Super(Super Super)",
		"X[C ref] ref <: X tag":                          "-",
		"C ref <: U32 ref":                               "-",
		"C ref <: $A ref":                                "-",
	})
}

// TestBare is P9.1 for Bare.
func TestBare(t *testing.T) {
	cell := entity(t, api.Class, "Cell", "A", "", fun(t, "get", ref, "$A", ""))
	p := append(example(t), cell, entity(t, api.Interface, "J", "", "", fun(t, "get", box, "C val", "")), entity(t, api.Interface, "K", "", "", api.Method{Kind: api.New, Name: "n", Cap: ref}),
		entity(t, api.Class, "D", "", "", api.Method{Kind: api.New, Name: "n", Cap: tag}))
	for q, want := range map[string]bool{
		"C tag <: T iso^":                            true,
		"C tag <: I iso":                             true,
		"(C tag | I box) <: (I iso | U32 val)":       true,
		"(C tag, C tag) <: (C iso, T ref)":           true,
		"(U32 tag & C tag) <: (I iso & T val)":       true,
		"$A iso! <: $A iso":                          true,
		"$A iso <: $A ref":                           false,
		"$A! <: $A^":                                 true,
		"this tag <: this iso":                       true,
		"this <: this iso":                           true,
		"Cell[C ref] tag <: Cell[C ref] iso":         true,
		"Cell[C ref] tag <: Cell[C val] iso":         false,
		"Cell[C val] tag <: J ref":                   true,
		"Cell[C ref] tag <: J ref":                   false,
		"D tag <: K iso":                             true,
		"(this ref -> C ref) <: (this val -> C ref)": false,
		"C tag <: U32 tag":                           false,
	} {
		left, right, _ := strings.Cut(q, " <: ")
		if got := subtype.Bare(p, read(t, left), read(t, right)); got != want {
			t.Errorf("%s: %v", q, got)
		}
	}
}

// TestSupers is P9.1 for supertypes.
func TestSupers(t *testing.T) {
	p := []api.Entity{
		entity(t, api.Class, "C", "A B", "T[$A] val; $B; Pair[$B, $A] ref; (T[$A] ref | T[$B] ref); X ref; T ref; T[$A] box"),
		entity(t, api.Trait, "T", "A", "U[Pair[$A, $A] ref] ref; C[$A, $A] ref"),
		entity(t, api.Trait, "U", "A", "Base ref"),
		entity(t, api.Trait, "Pair", "A B", ""),
		entity(t, api.Trait, "Base", "", "Base ref"),
		entity(t, api.Trait, "Base", "", "T[Base ref] ref"),
	}
	l, e := subtype.Supers(p, read(t, "C[Base ref, Base val] iso!"))
	var got []string
	for _, x := range l {
		got = append(got, shown(x))
	}
	want := []string{"C[Base ref, Base val] iso!", "T[Base ref] iso!", "Base iso!", "Pair[Base val, Base ref] iso!", "U[Pair[Base ref, Base ref] ref] iso!", "C[Base ref, Base ref] iso!", "Pair[Base ref, Base ref] iso!"}
	if e != api.OK || !slices.Equal(got, want) {
		t.Errorf("Supers: %v, error %d", got, e)
	}
	many := make([]api.Entity, 201)
	for i := range many {
		many[i].Name = "E" + strconv.Itoa(i)
	}
	for i, x := range []struct {
		p    []api.Entity
		t    api.Type
		want api.Errno
	}{
		{many, api.Type{}, api.ErrForm}, {many, read(t, "$A"), api.ErrSize}, {many[:200], read(t, "$A"), api.ErrType}, {p, read(t, "(C ref | C ref)"), api.ErrType},
		{p, read(t, "D ref"), api.ErrNone}, {p, read(t, "C[Base ref] ref"), api.ErrSize}, {p, read(t, "Base[Base ref] ref"), api.ErrSize}, {many[:200], read(t, "E199 ref"), api.OK},
	} {
		l, e := subtype.Supers(x.p, x.t)
		m, e2 := subtype.Methods(x.p, x.t)
		if e != x.want || e2 != x.want || e != api.OK && len(l)+len(m) > 0 {
			t.Errorf("types %d: errors %d, %d", i, e, e2)
		}
	}
	grows := []api.Entity{entity(t, api.Trait, "T", "A", "T[T[$A] ref] ref")}
	if l, _ := subtype.Supers(grows, read(t, "T[Base ref] ref")); len(l) != 19 {
		t.Errorf("%d supertypes up to the greatest depth", len(l))
	}
	wide := []api.Entity{{Name: "W"}}
	for i := range 120 {
		wide[0].Provides = append(wide[0].Provides, types.Named("E"+strconv.Itoa(i), tag, nil))
		wide = append(wide, api.Entity{Name: "E" + strconv.Itoa(i)})
	}
	if l, _ := subtype.Supers(wide, read(t, "W ref")); len(l) != 100 || shown(l[99]) != "E98 ref" {
		t.Errorf("%d supertypes of many", len(l))
	}
	if i, e := subtype.Find(p, "Base"); i != 4 || e != api.OK {
		t.Errorf("Find: %d, error %d", i, e)
	}
	if i, e := subtype.Find(p, ""); i != 0 || e != api.ErrNone {
		t.Errorf("Find: %d, error %d", i, e)
	}
}

// TestMethods is P9.1 for methods and Lookup.
func TestMethods(t *testing.T) {
	body := api.Expr{Op: api.OpUnit, Types: []api.Type{read(t, "$A")}}
	withBody := fun(t, "g", box, "$A", "$A!")
	withBody.Body = body
	wrong := fun(t, "h", box, "", "(($A -> X ref) | X ref)")
	bound := fun(t, "k", box, "", "")
	bound.Bounds = []api.Bound{{Name: "B", Type: types.Named("Any", api.CapAny, nil)}}
	p := []api.Entity{
		entity(t, api.Class, "C", "", "T[(X ref | Y ref)] ref; T[X iso] ref; V ref", api.Method{Kind: api.New, Name: "create"}, fun(t, "f", ref, "", ""), fun(t, "f", val, "", "")),
		entity(t, api.Trait, "T", "A", "", wrong, bound, fun(t, "f", tag, "", ""), withBody),
		entity(t, api.Trait, "V", "", "", fun(t, "h", tag, "", "V ref"), fun(t, "g", tag, "V ref", "")),
		entity(t, api.Class, "D", "", "", fun(t, "f", ref, "", "")),
	}
	l, e := subtype.Methods(p, read(t, "C ref"))
	var got []string
	for _, m := range l {
		got = append(got, m.Name+strconv.Itoa(m.Cap))
	}
	if want := []string{"create0", "f3", "g5", "h5"}; e != api.OK || !slices.Equal(got, want) {
		t.Fatalf("Methods: %v, error %d", got, e)
	}
	if g := l[2]; shown(g.Params[0].Type) != "(X ref | Y ref)" || shown(g.Body.Types[0]) != "(X ref | Y ref)" {
		t.Errorf("g: %v", g)
	}
	if h := l[3]; shown(h.Result) != "((this iso -> X ref) | X ref)" {
		t.Errorf("h: %v", h)
	}
	for s, want := range map[string]string{
		"C ref f": "3", "C iso f": "3", "D ref f": "3", "(C ref | D ref) f": "3", "(C ref | D ref) g": "", "(C ref | V ref) g": "", "(V ref & C ref) g": "6", "(C ref & V ref) g": "5",
		"((D ref & V ref) | (V ref & D ref)) g": "6", "C ref x": "", "X ref f": "", "T ref f": "", "T[X ref] ref f": "6", "$A f": "", "this f": "", "(C ref, C ref) f": "", "(this -> C ref) f": "", "C ref ": "",
	} {
		i := strings.LastIndex(s, " ")
		m, e := subtype.Lookup(p, read(t, s[:i]), s[i+1:])
		got := ""
		if e == api.OK {
			got = strconv.Itoa(m.Cap)
		} else if e != api.ErrNone || !reflect.DeepEqual(m, api.Method{}) {
			t.Errorf("Lookup of %s: error %d", s, e)
		}
		if got != want {
			t.Errorf("Lookup of %s: %s, want %s", s, got, want)
		}
	}
	for _, change := range []func(m *api.Method){
		func(m *api.Method) { m.Cap = box }, func(m *api.Method) { m.Kind = api.Be }, func(m *api.Method) { m.Partial = true }, func(m *api.Method) { m.Result = read(t, "C ref") },
		func(m *api.Method) { m.Params[0].Name = "q" }, func(m *api.Method) { m.Params[0].Type = read(t, "C val") }, func(m *api.Method) { m.Bounds[0].Name = "Y" }, func(m *api.Method) { m.Bounds[0].Type = read(t, "C val") },
	} {
		m := fun(t, "f", ref, "C ref", "")
		m.Bounds = []api.Bound{{Name: "X", Type: read(t, "C ref")}}
		n := m
		n.Params, n.Bounds, n.Body = slices.Clone(m.Params), slices.Clone(m.Bounds), body
		q := []api.Entity{{Name: "C", Methods: []api.Method{m}}, {Name: "D", Methods: []api.Method{n}}}
		if r, e := subtype.Lookup(q, read(t, "(C ref | D ref)"), "f"); e != api.OK || !reflect.DeepEqual(r.Body, api.Expr{}) {
			t.Errorf("equal but for the body: error %d", e)
		}
		change(&n)
		q[1].Methods[0] = n
		if _, e := subtype.Lookup(q, read(t, "(C ref | D ref)"), "f"); e != api.ErrNone {
			t.Errorf("methods that differ: error %d", e)
		}
	}
	if _, e := subtype.Lookup(make([]api.Entity, 201), api.Type{}, "f"); e != api.ErrForm {
		t.Errorf("Lookup: error %d", e)
	}
	if _, e := subtype.Lookup(make([]api.Entity, 201), read(t, "C ref"), "f"); e != api.ErrSize {
		t.Errorf("Lookup: error %d", e)
	}
}

// TestMethod is P9.1 and P9.6 for the questions of two methods.
func TestMethod(t *testing.T) {
	p := example(t)
	with := func(m api.Method, change func(m *api.Method)) api.Method {
		m.Params, m.Bounds = slices.Clone(m.Params), slices.Clone(m.Bounds)
		change(&m)
		return m
	}
	f := fun(t, "f", box, "C ref", "T box")
	kind := func(kind, c int) api.Method {
		return with(f, func(m *api.Method) { m.Kind, m.Cap = kind, c })
	}
	gives := func(result api.Type) api.Method {
		return with(fun(t, "f", box, "", ""), func(m *api.Method) { m.Result = result })
	}
	bounds := func(m api.Method, s string) api.Method {
		return with(m, func(m *api.Method) {
			for _, part := range strings.Split(s, "; ") {
				name, typ, _ := strings.Cut(part, ": ")
				m.Bounds = append(m.Bounds, api.Bound{Name: name, Type: read(t, typ)})
			}
		})
	}
	for i, x := range []struct {
		m, n api.Method
		want bool
	}{
		{f, f, true},
		{f, with(f, func(m *api.Method) { m.Name = "g" }), false},
		{f, kind(api.Be, tag), false},
		{f, with(f, func(m *api.Method) { m.Params = nil }), false},
		{f, with(f, func(m *api.Method) { m.Partial = true }), true},
		{with(f, func(m *api.Method) { m.Partial = true }), f, false},
		{kind(api.Fun, box), kind(api.Fun, ref), true}, {kind(api.Fun, ref), kind(api.Fun, box), false}, {kind(api.Fun, ref), kind(api.Fun, iso), false}, {kind(api.Fun, 0), kind(api.Fun, 0), false},
		{kind(api.New, ref), kind(api.New, box), true}, {kind(api.New, iso), kind(api.New, val), true}, {kind(api.New, box), kind(api.New, ref), false},
		{kind(api.Be, tag), kind(api.Be, ref), true}, {kind(api.Be, 0), kind(api.Be, 9), true},
		{fun(t, "f", box, "T ref", ""), fun(t, "f", box, "C ref", ""), true},
		{fun(t, "f", box, "C ref", ""), fun(t, "f", box, "T ref", ""), false},
		{fun(t, "f", box, "", "C ref"), fun(t, "f", box, "", "T ref"), true},
		{fun(t, "f", box, "", "T ref"), fun(t, "f", box, "", "C ref"), false},
		{fun(t, "f", box, "", "T ref"), fun(t, "f", box, "", ""), false},
		{fun(t, "f", box, "", ""), fun(t, "f", box, "", "T ref"), false},
		{fun(t, "f", box, "", ""), fun(t, "f", box, "", ""), true},
		{fun(t, "f", box, "", ""), gives(api.Type{Cap: iso}), false}, {gives(api.Type{Cap: iso}), fun(t, "f", box, "", ""), false}, {gives(api.Type{Cap: iso}), gives(api.Type{Cap: iso}), false},
		{fun(t, "f", box, "", ""), gives(api.Type{Mark: api.Ephemeral}), false}, {gives(api.Type{Name: "T", Cap: ref}), fun(t, "f", box, "", ""), false},
		{gives(api.Type{Args: []api.Type{{}}}), fun(t, "f", box, "", ""), false}, {gives(api.Type{Args: []api.Type{}}), fun(t, "f", box, "", ""), true},
		{gives(api.Type{Cap: iso}), fun(t, "f", box, "", "T ref"), false}, {fun(t, "f", box, "", "T ref"), gives(api.Type{Cap: iso}), false},
		{fun(t, "f", box, "", "(this -> C ref)"), fun(t, "f", box, "", "C box"), true},
		{fun(t, "f", box, "", "(this -> C ref)"), fun(t, "f", ref, "", "C ref"), false},
		{fun(t, "f", box, "", "C box"), fun(t, "f", box, "", "(this -> C ref)"), true},
		{fun(t, "f", tag, "", "(this -> C ref)"), fun(t, "f", box, "", "C box"), false},
		{bounds(fun(t, "f", box, "$A", "$A"), "A: $A"), bounds(fun(t, "f", box, "$B", "$B"), "B: $B"), true},
		{bounds(fun(t, "f", box, "$A", "$A"), "A: C ref"), bounds(fun(t, "f", box, "$B", "$B"), "B: T ref"), false},
		{bounds(fun(t, "f", box, "$A", "$A"), "A: C ref"), bounds(fun(t, "f", box, "$B", "$A"), "B: C ref"), true},
		{bounds(fun(t, "f", box, "$A", "$A"), "A: C ref"), bounds(fun(t, "f", box, "$B", "$C"), "B: C ref"), false},
		{bounds(fun(t, "f", box, "", "$A"), "A: C ref; B: T ref"), bounds(fun(t, "f", box, "", "$B"), "B: C ref; A: T ref"), true},
		{bounds(fun(t, "f", box, "", "$A"), "A: C ref"), fun(t, "f", box, "", "$A"), false},
		{with(f, func(m *api.Method) { m.Bounds = []api.Bound{{Name: "A"}} }), with(f, func(m *api.Method) { m.Bounds = []api.Bound{{Name: "A"}} }), false},
		{with(f, func(m *api.Method) { m.Params[0].Type = api.Type{} }), with(f, func(m *api.Method) { m.Params[0].Type = api.Type{} }), false},
	} {
		if got := subtype.Method(p, x.m, x.n); got != x.want {
			t.Errorf("methods %d: %v", i, got)
		}
		with := func(kind int, m api.Method) []api.Entity {
			return append(slices.Clone(p), api.Entity{Kind: kind, Name: "J", Methods: []api.Method{m}})
		}
		l := append(with(api.Interface, x.n), api.Entity{Kind: api.Class, Name: "E", Methods: []api.Method{x.m}})
		if _, e := subtype.Lookup(l, read(t, "J ref"), x.n.Name); e != api.OK {
			continue
		}
		if got := subtype.Is(l, read(t, "E val"), read(t, "J val")); got != x.want && x.m.Cap != 0 {
			t.Errorf("entities %d: %v", i, got)
		}
	}
	if subtype.Method(make([]api.Entity, 201), f, f) {
		t.Error("too many entities")
	}
}

// TestAssumed is P9.1 for interfaces that ask for themselves.
func TestAssumed(t *testing.T) {
	p := []api.Entity{
		entity(t, api.Interface, "I", "", "", fun(t, "next", box, "", "I box")),
		entity(t, api.Interface, "J", "", "", fun(t, "next", box, "", "J box")),
		entity(t, api.Class, "C", "", "", fun(t, "next", box, "", "C box")),
		entity(t, api.Interface, "K", "A", "", fun(t, "next", box, "", "K[K[$A] box] box")),
		entity(t, api.Class, "D", "A", "", fun(t, "next", box, "", "D[D[$A] box] box")),
		entity(t, api.Interface, "Any", "", ""),
	}
	ways(t, p, map[string]string{
		"C ref <: I ref":          "Structure(Structure(Assumed))",
		"C box <: I box":          "Structure(Assumed)",
		"I box <: J box":          "Structure(Assumed)",
		"I box <: C box":          "-",
		"U32 val <: Any tag":      "Structure",
		"X[C ref] ref <: Any tag": "Structure",
		"$A ref <: Any tag":       "-",
	})
	if !subtype.Same(p, read(t, "I box"), read(t, "J box")) || subtype.Same(p, read(t, "C box"), read(t, "J box")) {
		t.Error("Same")
	}
	// The types grow until their methods have errors, and are passed over: then K asks for nothing.
	if d, e := subtype.Derive(p, read(t, "D[C ref] box"), read(t, "K[C ref] box")); e != api.OK || !strings.HasSuffix(show(d), strings.Repeat("(Structure", 18)+strings.Repeat(")", 18)) {
		t.Errorf("types that grow: %s, error %d", show(d), e)
	}
}

// chain returns a program in which the question of I0 and J0 asks as many others as there are levels, one within the other.
func chain(t *testing.T, levels int) []api.Entity {
	t.Helper()
	var p []api.Entity
	for i := range levels {
		for _, s := range []string{"I", "J"} {
			result := "X val"
			if i+1 < levels {
				result = s + strconv.Itoa(i+1) + " box"
			}
			p = append(p, entity(t, api.Interface, s+strconv.Itoa(i), "", "", fun(t, "m"+strconv.Itoa(i), box, "", result)))
		}
	}
	return p
}

// TestSteps is P9.1 for the limit of steps, on both sides: in a union of some names each one is looked for in another union, in
// which some of them stand behind others.
func TestSteps(t *testing.T) {
	name := func(s string, n int) []api.Type { return slices.Repeat([]api.Type{types.Named(s, ref, nil)}, n) }
	for _, x := range [][4]int{{49, 39, 4, 1998}, {49, 39, 5, 2000}, {48, 39, 24, 1999}, {48, 39, 25, 2001}, {49, 39, 6, 2002}, {60, 64, 0, 3969}} {
		a := api.Type{Kind: api.TypeUnion, Args: append(name("A", x[1]), name("B", x[2])...)}
		b := api.Type{Kind: api.TypeUnion, Args: append(name("B", x[0]), name("A", 1)...)}
		want := api.OK
		if x[3] > subtype.MaxSteps {
			want = api.ErrSteps
		}
		if _, e := subtype.Derive(nil, a, b); e != want {
			t.Errorf("%d steps: error %d", x[3], e)
		}
		if subtype.Is(nil, a, b) != (want == api.OK) || subtype.Bare(nil, a, b) != (want == api.OK) {
			t.Errorf("%d steps: Is", x[3])
		}
		f := api.Method{Kind: api.Fun, Name: "f", Cap: box, Params: []api.Param{{Type: b}}}
		g := api.Method{Kind: api.Fun, Name: "f", Cap: box, Params: []api.Param{{Type: a}}}
		if subtype.Method(nil, f, g) != (want == api.OK) {
			t.Errorf("%d steps: Method", x[3])
		}
	}
}

// TestDepth is P9.3 for derivations that are deep.
func TestDepth(t *testing.T) {
	p := chain(t, 99)
	d, e := subtype.Derive(p, read(t, "I0 box"), read(t, "J0 box"))
	if e != api.OK || subtype.Check(p, d) != api.OK {
		t.Errorf("99 levels: error %d", e)
	}
	for range 100 {
		d = subtype.Proof{Rule: subtype.UnionOne, A: d.A, B: read(t, "(X ref | X ref)"), Kids: []subtype.Proof{d}}
	}
	if e := subtype.Check(p, d); e != api.ErrForm {
		t.Errorf("200 levels: error %d", e)
	}
	d = subtype.Proof{Rule: subtype.UnionOne, Kids: []subtype.Proof{d}}
	if e := subtype.Check(p, d); e != api.ErrSize {
		t.Errorf("201 levels: error %d", e)
	}
	wide := subtype.Proof{Kids: make([]subtype.Proof, 3999)}
	if e := subtype.Check(p, wide); e != api.ErrForm {
		t.Errorf("4000 proofs: error %d", e)
	}
	wide.Kids = make([]subtype.Proof, 4000)
	if e := subtype.Check(p, wide); e != api.ErrSize {
		t.Errorf("4001 proofs: error %d", e)
	}
	if e := subtype.Check(make([]api.Entity, 201), subtype.Proof{}); e != api.ErrSize {
		t.Errorf("too many entities: error %d", e)
	}
}

// TestCheck is P9.1 for derivations that are none.
func TestCheck(t *testing.T) {
	p := append(example(t), entity(t, api.Interface, "J", "", "", fun(t, "m", ref, "", "U32 val")), entity(t, api.Class, "E", "", "", fun(t, "m", ref, "", "U32 val")), entity(t, api.Interface, "Any", "", ""))
	u := subtype.Proof{Rule: subtype.Super, A: read(t, "U32 val"), B: read(t, "U32 val")}
	proof := func(rule, n int, a, b string, kids ...subtype.Proof) subtype.Proof {
		return subtype.Proof{Rule: rule, N: n, A: read(t, a), B: read(t, b), Kids: kids}
	}
	cc := proof(subtype.Super, 0, "C ref", "C box")
	for i, x := range []struct {
		d    subtype.Proof
		want api.Errno
	}{
		{u, api.OK}, {cc, api.OK},
		{subtype.Proof{Rule: 99, A: api.Type{}, B: types.Named("A", ref, make([]api.Type, 300))}, api.ErrForm},
		{subtype.Proof{Rule: 99, A: read(t, "A ref"), B: types.Named("A", ref, make([]api.Type, 300))}, api.ErrSize},
		{proof(0, 0, "C ref", "C ref"), api.ErrArg}, {proof(10, 0, "C ref", "C ref"), api.ErrArg}, {proof(-1, 0, "C ref", "C ref"), api.ErrArg},
		{proof(subtype.Super, -1, "C ref", "C ref"), api.ErrArg}, {proof(subtype.Structure, 1, "C ref", "I box", u), api.ErrArg}, {proof(subtype.Tuple, 1, "C ref", "I box", u), api.ErrArg},
		{proof(subtype.Param, -1, "C ref", "I box", u), api.ErrArg}, {proof(subtype.BothOne, -1, "C ref", "I box", u), api.ErrArg},
		{proof(subtype.Super, 1, "C ref", "C box"), api.ErrForm}, {proof(subtype.Super, 2, "C ref", "T box"), api.ErrForm}, {proof(subtype.Super, 0, "C ref", "T box"), api.ErrForm}, {proof(subtype.Super, 1, "C ref", "T box"), api.OK},
		{proof(subtype.Super, 0, "C ref", "C[C ref] box"), api.ErrForm}, {proof(subtype.Super, 0, "$A", "$A"), api.ErrForm}, {proof(subtype.Super, 0, "C ref", "C val"), api.ErrCap}, {proof(subtype.Super, 0, "C ref", "C box", cc), api.ErrForm},
		{proof(subtype.Structure, 0, "C ref", "I box", u), api.OK}, {proof(subtype.Structure, 0, "C ref", "I box"), api.ErrForm}, {proof(subtype.Structure, 0, "C ref", "I box", u, u), api.ErrForm}, {proof(subtype.Structure, 0, "C ref", "I box", cc), api.ErrForm},
		{proof(subtype.Structure, 0, "C ref", "I iso"), api.ErrCap}, {proof(subtype.Structure, 0, "C ref", "T ref"), api.ErrForm}, {proof(subtype.Structure, 0, "C ref", "I[C ref] ref"), api.ErrForm},
		{proof(subtype.Structure, 0, "T ref", "I ref"), api.ErrForm}, {proof(subtype.Structure, 0, "E ref", "I ref"), api.ErrCap}, {proof(subtype.Structure, 0, "E ref", "J ref", u), api.OK}, {proof(subtype.Structure, 0, "X ref", "Any ref"), api.OK},
		{proof(subtype.Structure, 0, "I ref", "I ref", u), api.OK},
		{proof(subtype.Assumed, 0, "C ref", "I box"), api.ErrScope}, {proof(subtype.Assumed, 0, "C ref", "I box", u), api.ErrForm}, {proof(subtype.Assumed, 0, "C ref", "T box"), api.ErrForm}, {proof(subtype.Assumed, 0, "C ref", "I val"), api.ErrCap},
		{proof(subtype.Param, 0, "$A iso^", "$A iso"), api.OK}, {proof(subtype.Param, 0, "$A iso", "$A iso^"), api.ErrCap}, {proof(subtype.Param, 0, "$A", "$B"), api.ErrForm}, {proof(subtype.Param, 0, "$A iso", "$A ref"), api.ErrForm},
		{proof(subtype.Param, 0, "$A", "$A!"), api.ErrCap}, {proof(subtype.Param, 0, "this", "this!"), api.ErrCap}, {proof(subtype.Param, 0, "C ref", "C ref"), api.ErrForm}, {proof(subtype.Param, 0, "(this -> $A)", "(this -> $A)"), api.OK}, {proof(subtype.Param, 0, "(this -> $A)", "(this -> $B)"), api.ErrForm},
		{proof(subtype.UnionAll, 0, "(C ref | C val)", "C box", cc, proof(subtype.Super, 0, "C val", "C box")), api.OK}, {proof(subtype.UnionAll, 0, "(C ref | C val)", "C box", cc), api.ErrForm}, {proof(subtype.UnionAll, 0, "C ref", "C box", cc), api.ErrForm},
		{proof(subtype.UnionAll, 0, "(C ref | C val)", "C box", cc, proof(subtype.Super, 0, "C ref", "C box")), api.ErrForm},
		{proof(subtype.UnionOne, 1, "C ref", "(T ref | C box)", cc), api.OK}, {proof(subtype.UnionOne, 0, "C ref", "(T ref | C box)", cc), api.ErrForm}, {proof(subtype.UnionOne, 2, "C ref", "(T ref | C box)", cc), api.ErrForm}, {proof(subtype.UnionOne, 0, "C ref", "(T ref & C box)", cc), api.ErrForm},
		{proof(subtype.BothAll, 0, "C ref", "(C box & T box)", cc, proof(subtype.Super, 1, "C ref", "T box")), api.OK}, {proof(subtype.BothAll, 0, "C ref", "(C box | T box)", cc, proof(subtype.Super, 1, "C ref", "T box")), api.ErrForm},
		{proof(subtype.BothOne, 1, "(T ref & C ref)", "C box", cc), api.OK}, {proof(subtype.BothOne, 2, "(T ref & C ref)", "C box", cc), api.ErrForm}, {proof(subtype.BothOne, 0, "(T ref | C ref)", "C box", cc), api.ErrForm},
		{proof(subtype.BothOne, 1, "(T ref & C ref)", "(C box | U32 val)", proof(subtype.UnionOne, 0, "C ref", "(C box | U32 val)", cc)), api.OK},
		{proof(subtype.Tuple, 0, "(C ref, U32 val)", "(C box, U32 val)", cc, u), api.OK}, {proof(subtype.Tuple, 0, "(C ref, U32 val)", "(C box, U32 val)", u, cc), api.ErrForm}, {proof(subtype.Tuple, 0, "(C ref, U32 val)", "(C box, U32 val, C ref)", cc, u), api.ErrForm},
		{proof(subtype.UnionOne, 1, "C ref", "(T ref | C box)", proof(subtype.Super, 1, "C ref", "C box")), api.ErrForm}, {proof(subtype.UnionOne, 1, "C ref", "(T ref | C box)", proof(99, 0, "C ref", "C box")), api.ErrArg},
	} {
		if e := subtype.Check(p, x.d); e != x.want {
			t.Errorf("derivation %d: error %d, want %d", i, e, x.want)
		}
	}
	q := []api.Entity{entity(t, api.Interface, "I", "", "", fun(t, "f", box, "", "I box")), entity(t, api.Class, "C", "", "", fun(t, "f", box, "", "C box"))}
	if e := subtype.Check(q, proof(subtype.Structure, 0, "C box", "I box", proof(subtype.Assumed, 0, "C box", "I box"))); e != api.OK {
		t.Errorf("Assumed: error %d", e)
	}
	if e := subtype.Check(q, proof(subtype.Structure, 0, "C ref", "I box", proof(subtype.Assumed, 0, "C box", "I box"))); e != api.ErrScope {
		t.Errorf("Assumed of another question: error %d", e)
	}
}

// TestErrors is P9.1 for the errors of Derive, in their order.
func TestErrors(t *testing.T) {
	many, fine, large := make([]api.Entity, 201), read(t, "A ref"), types.Named("A", ref, make([]api.Type, 300))
	for i, x := range []struct {
		p    []api.Entity
		a, b api.Type
		want api.Errno
	}{
		{many, api.Type{}, large, api.ErrForm}, {many, fine, large, api.ErrSize}, {many, large, api.Type{}, api.ErrSize}, {many, fine, fine, api.ErrSize}, {many[:200], fine, fine, api.OK}, {nil, fine, read(t, "B ref"), api.ErrNone},
	} {
		d, e := subtype.Derive(x.p, x.a, x.b)
		if e != x.want || e != api.OK && !reflect.DeepEqual(d, subtype.Proof{}) {
			t.Errorf("Derive %d: error %d", i, e)
		}
		if subtype.Is(x.p, x.a, x.b) != (e == api.OK) || subtype.Bare(x.p, x.a, x.b) != (e == api.OK) || subtype.Same(x.p, x.a, x.b) != (e == api.OK) {
			t.Errorf("Is %d", i)
		}
	}
}

// TestLaws is P9.2 to P9.6 for drawn programs and types.
func TestLaws(t *testing.T) {
	yes, deep := 0, 0
	for seed := range uint64(150) {
		m := draw.New(seed)
		p := m.Program(draw.Shape{Entities: 6, Generic: seed%2 == 0})
		m.Marks = true
		for range 60 {
			a, b := m.Type(1+m.Below(3)), m.Type(1+m.Below(3))
			is := subtype.Is(p, a, b)
			if is && !subtype.Bare(p, a, b) {
				t.Fatalf("%s is a %s, but not barely", shown(a), shown(b))
			}
			if !subtype.Is(p, a, a) {
				t.Fatalf("%s is not itself", shown(a))
			}
			d, e := subtype.Derive(p, a, b)
			if (e == api.OK) != is {
				t.Fatalf("%s, %s: Derive: error %d", shown(a), shown(b), e)
			}
			if is {
				yes++
				deep += len(d.Kids)
				if e := subtype.Check(p, d); e != api.OK {
					t.Fatalf("%s is a %s: Check: error %d", shown(a), shown(b), e)
				}
				spoilt(t, m, p, d)
			}
			both, union := api.Type{Kind: api.TypeBoth, Args: []api.Type{a, b}}, api.Type{Kind: api.TypeUnion, Args: []api.Type{a, b}}
			c := m.Type(2)
			if subtype.Is(p, union, c) != (subtype.Is(p, a, c) && subtype.Is(p, b, c)) {
				t.Fatalf("%s is a %s: not that of its Args", shown(union), shown(c))
			}
			if subtype.Is(p, c, both) != (subtype.Is(p, c, a) && subtype.Is(p, c, b)) {
				t.Fatalf("%s is a %s: not that of its Args", shown(c), shown(both))
			}
			if !subtype.Is(p, a, union) || !subtype.Is(p, both, b) {
				t.Fatalf("%s and %s", shown(union), shown(both))
			}
		}
	}
	if yes < 200 || deep < 100 {
		t.Errorf("%d answers with yes, %d questions below them", yes, deep)
	}
}

// spoilt changes a derivation: if Check accepts it, the answer is yes.
func spoilt(t *testing.T, m *draw.Maker, p []api.Entity, d subtype.Proof) {
	t.Helper()
	for range 4 {
		switch m.Below(6) {
		case 0:
			d.A = m.Type(2)
		case 1:
			d.B = m.Type(2)
		case 2:
			d.Rule = m.Below(11)
		case 3:
			d.N = m.Below(4) - 1
		case 4:
			d.Kids = append(slices.Clone(d.Kids), d)
		case 5:
			d.Kids = nil
		}
		if subtype.Check(p, d) == api.OK && !subtype.Is(p, d.A, d.B) {
			t.Fatalf("%s is no %s, but derived by %s", shown(d.A), shown(d.B), show(d))
		}
	}
}

// TestMoreMethods is P9.6: with a method more an interface asks for more, and it is one of all methods.
func TestMoreMethods(t *testing.T) {
	fits, fails := 0, 0
	for seed := range uint64(300) {
		m := draw.New(seed)
		p := m.Program(draw.Shape{Entities: 5})
		i := slices.IndexFunc(p, func(x api.Entity) bool { return x.Kind == api.Interface && len(x.Methods) > 1 && x.Name != "Any" })
		if i < 0 {
			continue
		}
		whole := p[i].Methods
		p[i].Provides = nil
		b := types.Named(p[i].Name, tag, nil)
		for j, x := range p {
			if j == i || len(x.Provides) > 0 {
				continue
			}
			a := types.Named(x.Name, ref, nil)
			if j%2 == 0 {
				p[j].Methods = append(slices.Clone(whole), x.Methods...)
			}
			all := true
			for k := range whole {
				p[i].Methods = whole[k : k+1]
				all = subtype.Is(p, a, b) && all
			}
			p[i].Methods = whole
			is := subtype.Is(p, a, b)
			if is && !all {
				t.Fatalf("%s is a %s, but not by each method", x.Name, p[i].Name)
			}
			if is {
				fits++
			} else {
				fails++
			}
		}
	}
	if fits < 50 || fails < 100 {
		t.Errorf("%d fit, %d do not", fits, fails)
	}
}

// TestTransitive is P9.2 for names without structural interfaces.
func TestTransitive(t *testing.T) {
	for seed := range uint64(60) {
		m := draw.New(seed)
		p := m.Program(draw.Shape{Entities: 8, Generic: seed%2 == 0})
		for i := range p {
			if p[i].Kind == api.Interface {
				p[i].Kind = api.Trait
			}
		}
		m.Marks = true
		var l []api.Type
		for range 25 {
			x := m.Type(1 + m.Below(2))
			if x.Kind != api.TypeBoth {
				l = append(l, x)
			}
		}
		for _, a := range l {
			for _, b := range l {
				if !subtype.Is(p, a, b) {
					continue
				}
				for _, c := range l {
					if subtype.Is(p, b, c) && !subtype.Is(p, a, c) {
						t.Fatalf("%s is a %s, and this a %s", shown(a), shown(b), shown(c))
					}
				}
			}
		}
	}
}
