package names_test

import (
	"fmt"
	"math/rand"
	"slices"
	"strings"
	"testing"

	"hackamore/api"
	"hackamore/names"
	"hackamore/num"
	"hackamore/parser"
	"hackamore/sugar"
	"hackamore/syntax"
	"hackamore/token"
)

const caps = " iso trn ref val box tag #read #send #share #alias #any"

// typ shows a type much as it is written, with `?` for a type parameter without a capability.
func typ(t api.Type) string {
	mark := strings.Split(caps, " ")[t.Cap] + []string{"", "^", "!"}[t.Mark]
	if t.Cap != 0 {
		mark = " " + mark
	}
	var args []string
	for _, a := range t.Args {
		args = append(args, typ(a))
	}
	switch t.Kind {
	case api.TypeName:
		if len(args) > 0 {
			return t.Name + "[" + strings.Join(args, ", ") + "]" + mark
		}
		return t.Name + mark
	case api.TypeParam:
		return "'" + t.Name + mark
	case api.TypeUnion:
		return "(" + strings.Join(args, " | ") + ")" + mark
	case api.TypeBoth:
		return "(" + strings.Join(args, " & ") + ")" + mark
	case api.TypeTuple:
		return "(" + strings.Join(args, ", ") + ")" + mark
	case api.TypeArrow:
		return strings.Join(args, "->") + mark
	case api.TypeSelf:
		return "this" + mark
	}
	return fmt.Sprint("type ", t.Kind)
}

var ops = strings.Fields("none lit local this get set var let assign consume seq if while match case try error return break continue call new recover tuple item is unit")

// expr shows an expression as a list.
func expr(x api.Expr) string {
	out := "(" + ops[x.Op]
	if x.Text != "" {
		out += " " + x.Text
	}
	for _, t := range x.Types {
		out += " <" + typ(t) + ">"
	}
	for _, k := range x.Kids {
		out += " " + expr(k)
	}
	return out + ")"
}

func bounds(l []api.Bound) string {
	var out []string
	for _, b := range l {
		out = append(out, b.Name+": "+typ(b.Type))
	}
	return "[" + strings.Join(out, ", ") + "]"
}

// entity shows an entity on some lines.
func entity(x api.Entity) string {
	words := strings.Split(caps, " ")
	out := fmt.Sprintf("%d %s %s%s", x.Kind, x.Name, words[x.Cap], bounds(x.Bounds))
	for _, t := range x.Provides {
		out += " is " + typ(t)
	}
	for _, f := range x.Fields {
		out += fmt.Sprintf("\n %s %v %s", f.Name, f.Let, typ(f.Type))
	}
	for _, m := range x.Methods {
		out += fmt.Sprintf("\n %d %s  %s%s(", m.Kind, m.Name, words[m.Cap], bounds(m.Bounds))
		for _, p := range m.Params {
			out += p.Name + ": " + typ(p.Type) + ";"
		}
		out += ") " + typ(m.Result)
		if m.Partial {
			out += " ?"
		}
		if m.Body.Op != 0 {
			out += " " + expr(m.Body)
		}
	}
	return out
}

// source returns the plain tree of a text as a source.
func source(t *testing.T, pack, text string) names.Source {
	t.Helper()
	n, at, e := parser.Parse(text)
	if e != api.OK {
		t.Fatalf("%s\nerror %d at %d: %s", text, e, at, text[at:])
	}
	p, path, e := sugar.Module(n, nil)
	if e != api.OK {
		t.Fatalf("%s\nerror %d at %v", text, e, path)
	}
	return names.Source{Package: pack, Tree: p}
}

// tree returns a text's tree as it is, as a source.
func tree(t *testing.T, pack, text string) names.Source {
	t.Helper()
	n, at, e := parser.Parse(text)
	if e != api.OK {
		t.Fatalf("%s\nerror %d at %d: %s", text, e, at, text[at:])
	}
	return names.Source{Package: pack, Tree: n}
}

func resolve(t *testing.T, l ...names.Source) []api.Entity {
	t.Helper()
	p, place, e := names.Resolve(l, []string{"on"})
	if e != api.OK {
		t.Fatalf("error %d at %v", e, place)
	}
	if e := names.Check(p); e != api.OK {
		t.Fatalf("Check: error %d", e)
	}
	return p
}

// TestBuiltin is P6.1 for the builtin package: its texts are plain, and give the entities of the page.
func TestBuiltin(t *testing.T) {
	p := resolve(t)
	want := strings.Fields("Any Stringable Iterator None Bool " + strings.Join(num.Types(), " ") + " String Array Range AmbientAuth Out Env")
	var got []string
	for _, x := range p {
		got = append(got, x.Name)
	}
	if !slices.Equal(got, want) {
		t.Fatalf("the builtin entities: %v", got)
	}
	i := 0
	for _, text := range names.Builtin() {
		n, at, e := parser.Parse(text)
		if e != api.OK || !sugar.IsPlain(n) {
			t.Fatalf("%s\nerror %d at %d", text, e, at)
		}
		for _, k := range n.Kids {
			if k.Text != want[i] {
				t.Errorf("declaration %d: %s", i, k.Text)
			}
			i++
		}
		again := resolve(t, tree(t, "q", text))
		for _, x := range again[len(want):] {
			own, _ := names.Find(p, strings.TrimPrefix(x.Name, "q."))
			if a, b := strings.ReplaceAll(entity(x), "q.", ""), entity(own); a != b {
				t.Errorf("the text gives\n%s\nthe program has\n%s", a, b)
			}
		}
	}
	if i != len(want) {
		t.Errorf("%d declarations", i)
	}
	for name, want := range map[string]string{
		"Any":      "5 Any tag[]",
		"Iterator": "5 Iterator ref[A: Any #any]\n 2 has_next  ref[]() Bool val\n 2 next  ref[]() 'A^ ?",
		"None":     "3 None val[]\n 2 string  box[]() String val",
		"Array":    "1 Array ref[A: Any #any]\n 1 create  ref[]() Array['A] ref^\n 2 size  box[]() USize val\n 2 apply  box[](i: USize val;) this->'A! ?\n 2 update  ref[](i: USize val;value: 'A;) 'A^ ?\n 2 push  ref[](value: 'A;) None val\n 2 pop  ref[]() 'A^ ?",
		"Out":      "2 Out tag[]\n 3 print  tag[](text: String val;) None val",
		"Env":      "1 Env val[]\n out true Out tag\n args true Array[String val] val\n root true AmbientAuth val",
		"Range": "1 Range ref[]\n _at false USize val\n _end true USize val\n 1 create  ref[](from: USize val;to: USize val;) Range ref^ (seq (set _at (this) (local from)) (set _end (this) (local to)) (this))\n" +
			" 2 has_next  ref[]() Bool val (call lt (get _at (this)) (get _end (this)))\n" +
			" 2 next  ref[]() USize val ? (if (call lt (get _at (this)) (get _end (this))) (set _at (this) (call add (get _at (this)) (lit 1 <USize val>))) (error))",
	} {
		if x, ok := names.Find(p, name); !ok || entity(x) != want {
			t.Errorf("%s:\n%s\nwant:\n%s", name, entity(x), want)
		}
	}
	u8, _ := names.Find(p, "U8")
	signatures, _ := num.Methods("U8")
	if len(u8.Methods) != len(signatures)+1 || !strings.HasPrefix(entity(u8), "3 U8 val[]\n 1 create  val[](value: U8 val;) U8 val^\n 2 add  box[](that: U8 val;) U8 val\n") || u8.Methods[6].Name != "add_partial" || !u8.Methods[6].Partial {
		t.Errorf("U8:\n%s", entity(u8))
	}
	if _, ok := names.Find(p, "U9"); ok {
		t.Error("there is a U9")
	}
}

// one returns what is shown of the last entity of a module.
func one(t *testing.T, text string) string {
	t.Helper()
	p := resolve(t, tree(t, "m", text))
	return entity(p[len(p)-1])
}

// TestEntities is P6.1 for entities and their types.
func TestEntities(t *testing.T) {
	for text, want := range map[string]string{
		"class C":         "1 m.C ref[]",
		"actor C":         "2 m.C tag[]",
		"primitive box C": "3 m.C box[]",
		"trait C":         "4 m.C ref[]",
		"interface C":     "5 m.C ref[]",
		"class val C[A, B: A #read, D: (A & B)] is (Any & C[A, B, D])":   "1 m.C val[A: Any #any, B: 'A #read, D: ('A & 'B)] is Any tag is m.C['A, 'B, 'D] val",
		"class C is Any\n  var x: (U8 | (C!, C iso^))\n  let y: this->C": "1 m.C ref[] is Any tag\n x false (U8 val | (m.C ref!, m.C iso^))\n y true this->m.C ref",
		"class C[A]\n  new a()\n  new iso b()\n  fun c()\n  fun ref d[B](x: A^, y: B->A!): B\n  be e()\n  be iso f(): U8\n  new g(): U8 ?": "1 m.C ref[A: Any #any]\n 1 a  ref[]() m.C['A] ref^\n 1 b  iso[]() m.C['A] iso^\n 2 c  box[]() None val\n" +
			" 2 d  ref[B: Any #any](x: 'A^;y: 'B->'A!;) 'B\n 3 e  tag[]() None val\n 3 f  tag[]() U8 val\n 1 g  ref[]() U8 val ?",
		"actor A\n  new create()":            "2 m.A tag[]\n 1 create  tag[]() m.A tag^",
		"primitive P\n  new create()":        "3 m.P val[]\n 1 create  val[]() m.P val^",
		"class val V\n  new create()":        "1 m.V val[]\n 1 create  ref[]() m.V ref^",
		"interface I\n  new create()":        "5 m.I ref[]\n 1 create  ref[]() m.I ref^",
		"class U8\n  var x: U8":              "1 m.U8 ref[]\n x false m.U8 ref",
		"class C[U8]\n  var x: U8 val!":      "1 m.C ref[U8: Any #any]\n x false 'U8 val!",
		"class C[A]\n  fun f(): (A ref->U8)": "1 m.C ref[A: Any #any]\n 2 f  box[]() 'A ref->U8 val",
	} {
		if got := one(t, text); got != want {
			t.Errorf("%s:\n%s\nwant:\n%s", text, got, want)
		}
	}
}

// TestAliases is P6.1 and P6.2 for aliases.
func TestAliases(t *testing.T) {
	for text, want := range map[string]string{
		"type A is U8\nclass C\n  var x: A":                                               "U8 val",
		"type A[B] is (B | U8)\nclass C\n  var x: A[String iso]":                          "(String iso | U8 val)",
		"type A[B] is (B ref, B!, B)\nclass C\n  var x: A[(U8 & String iso^)]":            "((U8 ref & String ref^), (U8 val! & String iso!), (U8 val & String iso^))",
		"type A[B] is B tag^\nclass C[D]\n  var x: A[(this->D!, D, Array[D])]":            "(this->'D tag^, 'D tag^, Array['D] tag^)",
		"type A[B] is E[B, U8]\ntype E[B, D] is Array[(D, B)]\nclass C\n  var x: A[Bool]": "Array[(U8 val, Bool val)] ref",
		"type A[B] is this->B\nclass C\n  var x: A[U8]":                                   "this->U8 val",
		"type A is (B & D)\ntrait B\ntrait D\nclass C is A\n  var x: U8":                  "U8 val",
		"type A[B, D] is B\nclass C[X]\n  var x: A[X, U8]->U8":                            "'X->U8 val",
	} {
		p := resolve(t, tree(t, "m", text))
		last := p[len(p)-1]
		if got := typ(last.Fields[0].Type); got != want {
			t.Errorf("%s: %s, want %s", text, got, want)
		}
		if strings.Contains(text, "class C is A") && len(last.Provides) != 2 {
			t.Errorf("%s: %v", text, last.Provides)
		}
		for _, x := range p {
			if x.Name == "m.A" {
				t.Errorf("%s: the alias is there", text)
			}
		}
	}
}

// TestVisible is P6.1 for what names stand for, and P6.3.
func TestVisible(t *testing.T) {
	l := []names.Source{
		tree(t, "a/p", "class C\nclass D\nclass U8\nclass E"), tree(t, "b/p", "class C\nclass F\nclass E"), tree(t, "p", "class G"),
		tree(t, "m", "use \"a/p\"\nuse \"b/p\"\nuse \"q\" if off\nclass D\nclass T\n  var a: C\n  var b: D\n  var c: p.D\n  var d: F\n  var e: p.F\n  var f: U8\n  var g: p.E\n  var h: O\n  var i: Bool"),
		tree(t, "m", "class O\n  var a: T\n  var b: U8"), tree(t, "", "class X\n  var a: U8"),
	}
	p := resolve(t, l...)
	x, _ := names.Find(p, "m.T")
	if want := "1 m.T ref[]\n a false a/p.C ref\n b false m.D ref\n c false a/p.D ref\n d false b/p.F ref\n e false b/p.F ref\n f false a/p.U8 ref\n g false a/p.E ref\n h false m.O ref\n i false Bool val"; entity(x) != want {
		t.Errorf("%s\nwant\n%s", entity(x), want)
	}
	o, _ := names.Find(p, "m.O")
	if want := "1 m.O ref[]\n a false m.T ref\n b false U8 val"; entity(o) != want {
		t.Errorf("%s", entity(o))
	}
	if x, ok := names.Find(p, "X"); !ok || entity(x) != "1 X ref[]\n a false U8 val" {
		t.Errorf("a builtin source: %s", entity(x))
	}
	back := slices.Clone(l)
	slices.Reverse(back)
	q := resolve(t, back...)
	if len(p) != len(q) {
		t.Fatalf("%d and %d entities", len(p), len(q))
	}
	for _, x := range p {
		if y, _ := names.Find(q, x.Name); entity(x) != entity(y) {
			t.Errorf("in another order:\n%s\n%s", entity(x), entity(y))
		}
	}
}

// TestDoubled is P6.1 for aliases whose types would be very large, if something named them.
func TestDoubled(t *testing.T) {
	text := "type A0[X] is (X, X)\ntype B0 is (U8, U8)\n"
	for i := range 70 {
		text += fmt.Sprintf("type A%d[X] is (A%d[X], A%d[X])\ntype B%d is (B%d | B%d)\n", i+1, i, i, i+1, i, i)
	}
	if p := resolve(t, tree(t, "m", text+"class C\n  var x: B3")); len(p[len(p)-1].Fields[0].Type.Args) != 2 {
		t.Error("the type of x")
	}
	l := []names.Source{tree(t, "m", text+"type D is B70[U8]")}
	if _, place, e := names.Resolve(l, nil); e != names.ErrArity || !slices.Equal(place.Path, []int{142, 3}) {
		t.Errorf("error %d at %v", e, place)
	}
}

const rich = "use \"p\"\nprimitive Q\n  fun f(): U8 => 1\nprimitive N[A]\n  new make()\n  fun g()\nclass D[A]\n  new create[B](a: A)\n  fun h()\ntrait T\nclass C[Z]\n  var v: U8\n  fun f[Y](x: U8, c: C[Z]) =>\n    "

// body resolves a body, which is rewritten before if it has sugar, and returns what is shown of it.
func body(t *testing.T, text string) string {
	t.Helper()
	p := resolve(t, tree(t, "m", rich+text), tree(t, "p", "primitive R"))
	x, _ := names.Find(p, "m.C")
	return expr(x.Methods[0].Body)
}

// TestBodies is P6.1 for expressions.
func TestBodies(t *testing.T) {
	for text, want := range map[string]string{
		"1; 1.5; \"s\"; true; this":                           "(seq (lit 1 <USize val>) (lit 1.5 <F64 val>) (lit s <String val>) (lit true <Bool val>) (this))",
		"U8.create(255); I8.create(127)?":                     "(seq (lit 255 <U8 val>) (lit 127 <I8 val>))",
		"F32.create(5); F64.create(1e5)":                      "(seq (lit 5 <F32 val>) (lit 1e5 <F64 val>))",
		"U8.create(1.5); U8.create(x); U8.create(\"\")":       "(seq (new create <U8 val> (lit 1.5 <F64 val>)) (new create <U8 val> (local x)) (new create <U8 val> (lit <String val>)))",
		"F32.create(340282366920938463463374607431768211455)": "(lit 340282366920938463463374607431768211455 <F32 val>)",
		"Q; None; R; Q.f()":                                   "(seq (unit <m.Q val>) (unit <None val>) (unit <p.R val>) (call f (unit <m.Q val>)))",
		"N[U8].g(); N[U8].make()":                             "(seq (call g (unit <m.N[U8 val] val>)) (new make <m.N[U8 val] val>))",
		"D[U8].create[Y](1)":                                  "(new create <m.D[U8 val] ref> <'Y> (lit 1 <USize val>))",
		"D[Z].create(x)?":                                     "(new create <m.D['Z] ref> (local x))",
		"c.f[U8](x, c); this.q()":                             "(seq (call f <U8 val> (local c) (local x) (local c)) (call q (this)))",
		"this.v; c.v = x; x = 1":                              "(seq (get v (this)) (set v (local c) (local x)) (assign x (lit 1 <USize val>)))",
		"c._1; c._20; c._0; c._01; c._1a; c._9223372036854775807; c._9223372036854775808": "(seq (item 0 (local c)) (item 19 (local c)) (get _0 (local c)) (get _01 (local c)) (get _1a (local c)) (item 9223372036854775806 (local c)) (get _9223372036854775808 (local c)))",
		"let y: U8; var z: Z = x; y":         "(seq (let y <U8 val>) (var z <'Z> (local x)) (local y))",
		"x is c; x isnt c":                   "(seq (is (local x) (local c)) (if (is (local x) (local c)) (lit false <Bool val>) (lit true <Bool val>)))",
		"if x then c end":                    "(if (local x) (local c) (unit <None val>))",
		"while x do break else continue end": "(while (local x) (break) (continue))",
		"while x do c end":                   "(while (local x) (local c) (unit <None val>))",
		"try error end":                      "(try (error) (unit <None val>) (unit <None val>))",
		"try x else c then this end":         "(try (local x) (local c) (this))",
		"return":                             "(return (unit <None val>))",
		"return x":                           "(return (local x))",
		"(x, c)":                             "(tuple (local x) (local c))",
		"recover x end; recover val x end":   "(seq (recover <this iso> (local x)) (recover <this val> (local x)))",
		"consume x":                          "(consume x)",
		"match x | let y: U8 => y | var _: C[Z] if y => 2 end":             "",
		"match x | let y: U8 => y | let _: U8 if x => 2 else c end":        "(match (local x) (case y <U8 val> (none) (local y)) (case _.2 <U8 val> (local x) (lit 2 <USize val>)) (case _ <Any tag> (none) (local c)))",
		"let x: U8 = x; let x: U8 = x; x":                                  "(seq (let x.2 <U8 val> (local x)) (let x.3 <U8 val> (local x.2)) (local x.3))",
		"let y: U8 = (let y: U8 = x; y); y":                                "(seq (let y <U8 val> (seq (let y.2 <U8 val> (local x)) (local y.2))) (local y))",
		"if (let y: U8; y) then let x: U8 = y; x else x end; let y: U8; y": "(seq (if (seq (let y <U8 val>) (local y)) (seq (let x.2 <U8 val> (local y)) (local x.2)) (local x)) (let y.2 <U8 val>) (local y.2))",
		"let X: U8 = 1; let X: U8 = 2":                                     "(seq (let X <U8 val> (lit 1 <USize val>)) (let X.2 <U8 val> (lit 2 <USize val>)))",
	} {
		if want == "" {
			continue
		}
		if got := body(t, text); got != want {
			t.Errorf("%s:\n%s\nwant:\n%s", text, got, want)
		}
	}
}

// TestErrors is P6.1 for what is wrong in a body, with the place.
func TestErrors(t *testing.T) {
	at := func(rest ...int) []int { return append([]int{5, 5, 6}, rest...) }
	for _, x := range []struct {
		body string
		code api.Errno
		path []int
	}{
		{"y", api.ErrScope, at()}, {"x; y", api.ErrScope, at(1)}, {"v", api.ErrScope, at()}, {"y = nothing", api.ErrScope, at(0)}, {"let y: Nope = z", api.ErrScope, at(0, 1)}, {"let y: U8 = y", api.ErrScope, at(1)}, {"consume y", api.ErrScope, at(0)},
		{"Nope", api.ErrScope, at()}, {"Nope.x", api.ErrScope, at(0)}, {"Nope.x()", api.ErrScope, at(0, 0)}, {"Nope[U8]", api.ErrScope, at(0)}, {"Nope[U8].x", api.ErrScope, at(0, 0)}, {"Nope[U8].x(y)", api.ErrScope, at(0, 0, 0)},
		{"C", names.ErrKind, at()}, {"T", names.ErrKind, at()}, {"Y", names.ErrKind, at()}, {"Z", names.ErrKind, at()}, {"N", names.ErrArity, at()}, {"Q.x", names.ErrKind, at()}, {"Z.x", names.ErrKind, at()}, {"D[U8]", names.ErrKind, at()}, {"x.f[U8]", names.ErrKind, at()}, {"N[U8].x", names.ErrKind, at()},
		{"T.f()", names.ErrKind, at(0, 0)}, {"Any.f()", names.ErrKind, at(0, 0)}, {"Y.f(y)", names.ErrKind, at(0, 0)}, {"Z[U8].f()", names.ErrKind, at(0, 0, 0)}, {"D[U8].h()", api.ErrNone, at(0, 0, 0)}, {"D.nope()", api.ErrNone, at(0, 0)}, {"D.create(y)", names.ErrArity, at(0, 0)}, {"D[U8, U8].create(y)", names.ErrArity, at(0, 0, 0)}, {"N.g()", names.ErrArity, at(0, 0)}, {"N[U8, U8].g(y)", names.ErrArity, at(0, 0, 0)}, {"Q[U8].f()", names.ErrArity, at(0, 0, 0)},
		{"D[Nope].create[Nope](y)", api.ErrScope, at(0, 0, 0, 1)}, {"D[U8].create[Nope](y)", api.ErrScope, at(0, 1)}, {"D[U8].create(y)", api.ErrScope, at(2)}, {"y.f[Nope]()", api.ErrScope, at(0, 0, 0)}, {"x.f[Nope](y)", api.ErrScope, at(0, 1)},
		{"U8.create(256)", names.ErrLiteral, at(2)}, {"I8.create(128)", names.ErrLiteral, at(2)}, {"18446744073709551616", names.ErrLiteral, at()}, {"F32.create(0." + strings.Repeat("0", 400) + ")", names.ErrLiteral, at(2)}, {"0." + strings.Repeat("0", 399), names.ErrLiteral, at()}, {"U8.create(1, y)", api.ErrScope, at(3)},
		{"X = y", names.ErrKind, at(0)}, {"Q = y", names.ErrKind, at(0)}, {"c._1 = y", names.ErrKind, at(0)}, {"y._1 = z", names.ErrKind, at(0)}, {"Q.x = y", names.ErrKind, at(0)}, {"Nope.x = y", api.ErrScope, at(0, 0)}, {"x = y", api.ErrScope, at(1)}, {"c.v = y", api.ErrScope, at(1)},
		{"consume this", names.ErrKind, at()}, {"consume c.v", names.ErrKind, at()}, {"consume Q", names.ErrKind, at()}, {"consume y.v", names.ErrKind, at()},
		{"match x | let y: U8 => y else z end", api.ErrScope, at(1)}, {"match x | let y: U8 => z | let q: Nope => 1 end", api.ErrScope, at(2, 2)}, {"match x | let y: U8 => y | let q: U8 if y => 1 end", api.ErrScope, at(3, 1)},
		{"while x do let y: U8 else y end", api.ErrScope, at(2)}, {"try let y: U8 else y end", api.ErrScope, at(1)}, {"recover let y: U8 end; y", api.ErrScope, at(1)}, {"if x then let y: U8 end; y", api.ErrScope, at(1)},
		{"let y: C", names.ErrArity, at(1)}, {"let y: C[Nope, U8]", names.ErrArity, at(1)}, {"let y: C[Nope]", api.ErrScope, at(1, 2)}, {"let y: U8 #read", names.ErrKind, at(1)}, {"let y: Z #any", names.ErrKind, at(1)}, {"let y: Z[U8]", names.ErrArity, at(1)}, {"let y: this", names.ErrKind, at(1)}, {"let y: (U8 | this)", names.ErrKind, at(1, 1)}, {"let y: U8->Nope", names.ErrKind, at(1, 0)}, {"let y: (Z, Z)->Z", names.ErrKind, at(1, 0)}, {"let y: Nope->Nope", api.ErrScope, at(1, 0)}, {"let y: Nope[Nah]->Nope", api.ErrScope, at(1, 0)}, {"let y: U8[U8]->Nope", names.ErrKind, at(1, 0)}, {"let y: D[Nope]->Nope", names.ErrKind, at(1, 0)}, {"let y: (Nope | U8)->U8", names.ErrKind, at(1, 0)}, {"let y: (this->U8)->U8", names.ErrKind, at(1, 0)}, {"let y: Z->Nope", api.ErrScope, at(1, 1)}, {"let y: p.Q", api.ErrScope, at(1)}, {"let y: m.Q", api.ErrScope, at(1)},
	} {
		l := []names.Source{tree(t, "p", "primitive R"), tree(t, "m", rich+x.body)}
		p, place, e := names.Resolve(l, nil)
		if e != x.code || place.Source != 1 || !slices.Equal(place.Path, x.path) || len(p) > 0 {
			t.Errorf("%s: error %d at %v, want %d at %v", x.body, e, place, x.code, x.path)
		}
	}
}

// TestFaults is P6.1 for what is wrong with sources and declarations, and which error is told first.
func TestFaults(t *testing.T) {
	for _, x := range []struct {
		texts  []string // the package and the text, in turn
		code   api.Errno
		source int
		path   []int
	}{
		{[]string{"m", "use \"q\"\nclass C is Nope", "n", "class C fun f() => 1 + 1"}, api.ErrArg, 1, nil},
		{[]string{"m", "class C", "a b", "class C"}, api.ErrArg, 1, nil}, {[]string{"a/", "class C"}, api.ErrArg, 0, nil}, {[]string{"let", "class C"}, api.ErrArg, 0, nil},
		{[]string{"m", "use \"q\" if 1\nuse \"z\""}, api.ErrForm, 0, []int{0}}, {[]string{"m", "use \"q\" if on or x.y"}, api.ErrForm, 0, []int{0}}, {[]string{"m", "use \"q\" if not off"}, names.ErrUse, 0, []int{0}}, {[]string{"m", "class C class C use", "m", "class C"}, api.OK, 0, nil},
		{[]string{"m", "use \"m\"\nuse \"q\""}, names.ErrUse, 0, []int{1}}, {[]string{"m", "class C is Nope\nclass D", "m", "class D"}, api.ErrTwice, 1, []int{0}}, {[]string{"", "class Bool"}, api.ErrTwice, 0, []int{0}}, {[]string{"m", "type C is C\nclass D\nclass D"}, api.ErrTwice, 0, []int{2}}, {[]string{"m", "class C\nclass C\nuse"}, api.OK, 0, nil},
		{[]string{"m", "class C[A, B, A]\n  var x: U8"}, api.ErrTwice, 0, []int{0, 2, 2}}, {[]string{"m", "class C\n  var x: U8\n  fun f()\n  fun x()"}, api.ErrTwice, 0, []int{0, 6}}, {[]string{"m", "class C\n  fun f(x: U8, y: U8, x: Nope)"}, api.ErrTwice, 0, []int{0, 4, 3, 2}}, {[]string{"m", "class C[A]\n  fun f[B]()\n  fun g[D, A](D: U8)"}, api.ErrTwice, 0, []int{0, 5, 2, 1}}, {[]string{"m", "class C\n  fun f[B, B]()"}, api.ErrTwice, 0, []int{0, 4, 2, 1}},
		{[]string{"m", "class C is Nope\ntype A is U8\ntype B is (D | B)\ntype D is B"}, names.ErrCycle, 0, []int{2}}, {[]string{"m", "type A is D\ntype D is Array[D]"}, names.ErrCycle, 0, []int{1}}, {[]string{"m", "type A[X] is U8\ntype D is A[D]"}, names.ErrCycle, 0, []int{1}}, {[]string{"m", "use \"n\"\ntype A is B", "n", "use \"m\"\ntype B is m.A"}, names.ErrCycle, 0, []int{1}},
		{[]string{"m", "class C\n  var x: A\n  var y: Nope\ntype A is Nope"}, api.ErrScope, 0, []int{0, 5, 1}}, {[]string{"m", "class C\n  var x: A\ntype A is (U8, Nope)"}, api.ErrScope, 0, []int{1, 3, 1}}, {[]string{"m", "type A[X: Nope] is U8"}, api.ErrScope, 0, []int{0, 2, 0, 0}}, {[]string{"m", "type A[X] is X->U8"}, names.ErrKind, 0, []int{0, 3, 0}}, {[]string{"m", "type A is Nope->U8"}, api.ErrScope, 0, []int{0, 3, 0}}, {[]string{"m", "type A is (Nope->Nah | U8)"}, api.ErrScope, 0, []int{0, 3, 0, 0}}, {[]string{"m", "type A is U8->Nope"}, names.ErrKind, 0, []int{0, 3, 0}}, {[]string{"m", "type A is this->Nope"}, api.ErrScope, 0, []int{0, 3, 1}}, {[]string{"m", "type A is U8[Nope]->U8"}, names.ErrKind, 0, []int{0, 3, 0}}, {[]string{"m", "type A is U8\nclass C\n  var x: A val"}, names.ErrKind, 0, []int{1, 4, 1}}, {[]string{"m", "type A is U8\nclass C\n  var x: A^"}, names.ErrKind, 0, []int{1, 4, 1}}, {[]string{"m", "type A[X] is U8\nclass C\n  var x: A"}, names.ErrArity, 0, []int{1, 4, 1}}, {[]string{"m", "type A[X] is U8\nclass C\n  var x: A[Nope]"}, api.ErrScope, 0, []int{1, 4, 1, 2}}, {[]string{"m", "type A is U8\nclass C\n  fun f() => A.create(1)"}, names.ErrKind, 0, []int{1, 4, 6, 0, 0}}, {[]string{"m", "type A is None\nclass C\n  fun f() => A"}, names.ErrKind, 0, []int{1, 4, 6}},
		{[]string{"m", "class C[A: (B #read | U8), B]"}, names.ErrKind, 0, []int{0, 2, 0, 0, 0}}, {[]string{"m", "class C[A: Array[B #read], B]"}, names.ErrKind, 0, []int{0, 2, 0, 0, 2}}, {[]string{"m", "class C is this"}, names.ErrKind, 0, []int{0, 3}}, {[]string{"m", "class C\n  fun f(x: Nope): Nah => y"}, api.ErrScope, 0, []int{0, 4, 3, 0, 0}}, {[]string{"m", "class C\n  fun f[A: Nope](x: Nah)"}, api.ErrScope, 0, []int{0, 4, 2, 0, 0}}, {[]string{"m", "class C\n  fun f(): Nah => y"}, api.ErrScope, 0, []int{0, 4, 4}},
		{[]string{"m", "class C\n  var x: Nope", "a", "class D\n  var x: Nope"}, api.ErrScope, 0, []int{0, 4, 1}}, {[]string{"m", "class C\n  var x: q.D", "q", "class D"}, api.ErrScope, 0, []int{0, 4, 1}},
		{[]string{"m", "class C" + fields(65)}, api.ErrFull, 0, nil}, {[]string{"m", "class C" + fields(64)}, api.OK, 0, nil}, {[]string{"m", classes(176)}, api.ErrFull, 0, nil}, {[]string{"m", classes(175) + "type A is U8"}, api.OK, 0, nil}, {[]string{"m", classes(176) + "class D is Nope"}, api.ErrScope, 0, []int{176, 3}}, {[]string{"m", "class C\n  fun f(" + list(65) + ")"}, api.ErrFull, 0, nil},
	} {
		if x.code == api.OK && x.path == nil && strings.HasSuffix(x.texts[1], "use") {
			continue
		}
		var l []names.Source
		for i := 0; i < len(x.texts); i += 2 {
			l = append(l, tree(t, x.texts[i], x.texts[i+1]))
		}
		p, place, e := names.Resolve(l, []string{"on"})
		if e != x.code || place.Source != x.source || !slices.Equal(place.Path, x.path) || (len(p) > 0) != (e == api.OK) {
			t.Errorf("%v: error %d at %v, want %d at %d %v", x.texts, e, place, x.code, x.source, x.path)
		}
	}
}

func fields(n int) string {
	out := ""
	for i := range n {
		out += fmt.Sprintf("\n  var x%d: U8", i)
	}
	return out
}

func classes(n int) string {
	out := ""
	for i := range n {
		out += fmt.Sprintf("class C%d\n", i)
	}
	return out
}

func list(n int) string {
	var out []string
	for i := range n {
		out = append(out, fmt.Sprintf("x%d: U8", i))
	}
	return strings.Join(out, ", ")
}

// TestProgram is P6.1 for Program, and P6.5.
func TestProgram(t *testing.T) {
	main := "actor Main\n  new create(env: Env) => env.out.print(\"hi\")"
	p, e := names.Program(map[string]string{"main": main}, nil)
	x, ok := names.Find(p, "main.Main")
	if want := "2 main.Main tag[]\n 1 create  tag[](env: Env val;) main.Main tag^ (call print (get out (local env)) (lit hi <String val>))"; e != api.OK || !ok || entity(x) != want {
		t.Errorf("the example: error %d, %s", e, entity(x))
	}
	other, e := names.Program(map[string]string{"main": main}, []string{"a", "b"})
	if e != api.OK || !names.Equal(p, other) {
		t.Errorf("with flags: error %d", e)
	}
	for _, c := range []struct {
		texts map[string]string
		want  api.Errno
	}{
		{nil, names.ErrMain}, {map[string]string{"main": main, "a": ""}, api.OK}, {map[string]string{"main": "class Main\n  new create(env: Env) => 1"}, names.ErrMain}, {map[string]string{"main": "actor Main\n  new create(env: Env, x: U8) => 1"}, names.ErrMain}, {map[string]string{"main": "actor Main\n  new create(env: Env ref) => 1"}, names.ErrMain}, {map[string]string{"main": "actor Main\n  be create(env: Env) => 1\n  new make()"}, names.ErrMain}, {map[string]string{"main": "actor Main\n  be create(env: Env) => 1"}, api.ErrTwice}, {map[string]string{"main": "actor Main\n  new make(env: Env) => 1"}, names.ErrMain}, {map[string]string{"maine": main}, names.ErrMain}, {map[string]string{"main": "class Env\n" + main}, names.ErrMain},
		{map[string]string{"a": "class", "b": "@"}, api.ErrEnd}, {map[string]string{"a": "class C fun f() => x~y", "b": "@"}, sugar.ErrChain}, {map[string]string{"b": "class C is Nope", "a": "class C fun f() => x.>y"}, sugar.ErrChain}, {map[string]string{"a": "use \"b\"", "main": main}, names.ErrUse}, {map[string]string{"a b": "", "main": main}, api.ErrArg}, {map[string]string{"": "class None", "main": main}, api.ErrTwice}, {map[string]string{"a": "class C\n  fun f() => 1 + y", "main": main}, api.ErrScope},
		{map[string]string{"main": strings.Repeat(" ", api.MaxSource+1)}, api.ErrLarge},
	} {
		p, e := names.Program(c.texts, nil)
		if e != c.want || (len(p) > 0) != (e == api.OK) {
			t.Errorf("%v: error %d, want %d", c.texts, e, c.want)
		}
	}
	flagged := map[string]string{"main": "use \"q\" if far\nactor Main\n  new create(env: Env) => ifdef far then D else None end", "q": "primitive D"}
	near, e := names.Program(flagged, []string{"on"})
	far, e2 := names.Program(flagged, []string{"far"})
	same, e3 := names.Program(flagged, nil)
	if e != api.OK || e2 != api.OK || e3 != api.OK || names.Equal(near, far) || !names.Equal(near, same) {
		t.Errorf("flags: errors %d, %d, %d", e, e2, e3)
	}
}

// stat makes a text of stats in which most names are in scope.
func stat(r *rand.Rand, depth int) string {
	forms := strings.Split("%n|x.add(%e)|let %n: U8 = %e|%n = %e|(%e, %e)|1|c.v = %e|consume %n|%e is %e|return %e|Q.f()|D[U8].create[Z](%e)|%e as Y|[as Z: %e; %e]|"+
		"if %e then %s else %s end|if %e then %s end|match %e % let %n: U8 if %e => %s % let _: C[Z] => %s else %s end|match %e % (let %n: Z, let y: Y) => %s end|while %e do %s else %s end|"+
		"try %s else %s then %s end|recover %s end|repeat %s until %e end|for %n: U8 in %e do %s end|with %n: Y = %e do %s end|{(y: {(U8)})(q: U8 = %e) => %s }|object let x: U8 = %e fun f(q: Z) => %s be g() => %s end|f[Z](%e, c)", "|")
	s := forms[r.Intn(len(forms))]
	if depth == 0 {
		s = forms[r.Intn(2)*5]
	}
	out := ""
	for i := 0; i < len(s); i++ {
		switch {
		case s[i] != '%':
			out += s[i : i+1]
			continue
		case s[i+1] == ' ':
			out += "|"
			continue
		case s[i+1] == 'n':
			out += []string{"x", "y", "q"}[r.Intn(3)]
		case s[i+1] == 'e':
			out += "(" + stat(r, max(0, depth-1)) + ")"
		default:
			out += stat(r, max(0, depth-1)) + "; " + stat(r, max(0, depth-1))
		}
		i++
	}
	return out
}

// TestForm is P6.2 and P6.4 for many bodies: programs pass Check, locals are unique, and their names do not matter.
func TestForm(t *testing.T) {
	r := rand.New(rand.NewSource(1))
	right := 0
	for range 3000 {
		text := rich + "let y: U8; let q: Y; " + stat(r, 3) + "; " + stat(r, 2)
		n, at, e := parser.Parse(text)
		if e != api.OK {
			t.Fatalf("%s: error %d at %d", text, e, at)
		}
		p, path, e := sugar.Module(n, nil)
		if e != api.OK {
			t.Fatalf("%s: error %d at %v", text, e, path)
		}
		program, place, e := names.Resolve([]names.Source{{Package: "m", Tree: p}, tree(t, "p", "")}, nil)
		if e != api.OK {
			if _, none := syntax.At(p, place.Path); none != api.OK || place.Source != 0 || e != api.ErrScope && e != names.ErrKind {
				t.Fatalf("%s: error %d at %v", text, e, place)
			}
			continue
		}
		right++
		if e := names.Check(program); e != api.OK {
			t.Fatalf("%s: Check: error %d", text, e)
		}
		for _, x := range program {
			for _, m := range x.Methods {
				unique(t, m.Body, map[string]bool{})
			}
		}
	}
	if right < 300 {
		t.Errorf("only %d modules were right", right)
	}
	text := rich + "let y: U8 = x; if (let q: U8 = y; q) then let y: U8 = q; y else y end; match y | let x: U8 if x => x | let q: U8 => consume q end; while y do let y: U8 = x; y = y end; try let q: U8; q else x end"
	p := resolve(t, tree(t, "m", text), tree(t, "p", ""))
	x, _ := names.Find(p, "m.C")
	unique(t, x.Methods[0].Body, map[string]bool{"x": true, "c": true})
	l, _, _ := token.Scan(text)
	table := map[string]string{"x": "ex", "y": "x", "q": "cue", "c": "q"}
	for i, k := range l {
		if other, ok := table[k.Text]; ok && k.Kind == token.Ident {
			l[i].Text = other
		}
	}
	other, _ := token.Text(l)
	q := resolve(t, tree(t, "m", other), tree(t, "p", ""))
	y, _ := names.Find(q, "m.C")
	if got, want := expr(y.Methods[0].Body), expr(renamed(x.Methods[0].Body, table)); got != want {
		t.Errorf("renamed:\n%s\nwant:\n%s", got, want)
	}
}

// renamed returns an expression with other names of locals.
func renamed(x api.Expr, table map[string]string) api.Expr {
	switch x.Op {
	case api.OpLocal, api.OpVar, api.OpLet, api.OpAssign, api.OpConsume, api.OpCase:
		name, number, ok := strings.Cut(x.Text, ".")
		if other := table[name]; other != "" {
			name = other
		}
		x.Text = name
		if ok {
			x.Text += "." + number
		}
	}
	var kids []api.Expr
	for _, k := range x.Kids {
		kids = append(kids, renamed(k, table))
	}
	x.Kids = kids
	return x
}

func unique(t *testing.T, x api.Expr, seen map[string]bool) {
	t.Helper()
	switch x.Op {
	case api.OpVar, api.OpLet, api.OpCase:
		if seen[x.Text] {
			t.Errorf("%s is there twice", x.Text)
		}
		seen[x.Text] = true
	}
	for _, k := range x.Kids {
		unique(t, k, seen)
	}
}
