package generic_test

import (
	"fmt"
	"reflect"
	"slices"
	"strconv"
	"strings"
	"testing"

	"hackamore/api"
	"hackamore/draw"
	"hackamore/generic"
	"hackamore/subtype"
	"hackamore/types"
)

func showEdges(l []generic.Edge) string {
	var out []string
	for _, x := range l {
		s := x.From + " " + x.To
		if x.Grows {
			s += " +"
		}
		out = append(out, s)
	}
	return strings.Join(out, "\n")
}

// TestEdges is P10.1 for edges and their circles.
func TestEdges(t *testing.T) {
	cell := entity(t, api.Class, "main.Cell", "A", "")
	list := entity(t, api.Class, "main.List", "A", "")
	list.Fields = []api.Field{{Name: "x", Type: read(t, "main.List[main.Cell[$A] ref] ref")}}
	p := []api.Entity{cell, list}
	l, e := generic.Edges(p)
	is(t, "the example", "main.List.A main.Cell.A\nmain.List.A main.List.A +", showEdges(l))
	ends, grow, e2 := generic.Ends(p)
	if e != api.OK || e2 != api.OK || ends || !slices.Equal(grow, []string{"main.List.A"}) {
		t.Errorf("the example: %v, %v, errors %d, %d", ends, grow, e, e2)
	}
	maker := entity(t, api.Class, "M", "A; B", "P[$B iso^, ($A | $A)] ref",
		generically(t, fun(t, "f", "M[$X, $A] ref", "Q[$B] ref", seq(call(t, "g", "$X; $C"), call(t, "g", "$A"), unit(t, "M[$B, M[$C, $X] ref] ref"))), "X; C: M[$C, $A] ref"),
		generically(t, fun(t, "g", "", ""), "Y; Z"))
	maker.Methods[0].Body.Kids = append(maker.Methods[0].Body.Kids,
		api.Expr{Op: api.OpNew, Text: "g", Types: readAll(t, "N ref; $A; P[$B, $Z] ref")}, api.Expr{Op: api.OpNew, Text: "g", Types: readAll(t, "P[$A, $A] ref; $A; $B")}, api.Expr{Op: api.OpNew, Text: "g", Types: readAll(t, "$A; $A; $B")})
	p = []api.Entity{
		maker,
		entity(t, api.Trait, "P", "R; S", "M[$R, $S] ref", generically(t, fun(t, "g", "", "M[$I, $R] ref"), "I")),
		entity(t, api.Class, "N", "", "", generically(t, fun(t, "g", "M[$U, M[$V, $V] ref] ref", ""), "U; V")),
		entity(t, api.Class, "N", "L", "M[$L, $L] ref", generically(t, fun(t, "g", "", ""), "D; E")),
	}
	l, e = generic.Edges(p)
	is(t, "edges", `M.A M.B
M.A N.g.U
M.A P.R
M.A P.S
M.A P.S +
M.A P.g.I
M.B M.A
M.B N.g.V +
M.B P.R
M.f.C M.A
M.f.C M.B +
M.f.C M.g.Z
M.f.C N.g.V
M.f.X M.A
M.f.X M.B
M.f.X M.B +
M.f.X M.g.Y
M.f.X N.g.U
N.g.U M.A
N.g.V M.A
N.g.V M.B
N.g.V M.B +
P.R M.A
P.R M.B
P.S M.B
P.g.I M.A`, showEdges(l))
	ends, grow, _ = generic.Ends(p)
	if e != api.OK || ends || !slices.Equal(grow, []string{"M.A", "M.B", "N.g.V"}) {
		t.Errorf("edges: error %d, %v, %v", e, ends, grow)
	}
}

// TestEnds is P10.1 for circles of edges.
func TestEnds(t *testing.T) {
	for s, want := range map[string]string{
		"":                                     "",
		"A: B[$A] ref; B: A[$B] ref":           "",
		"A: B[C[$A] ref] ref; B: A[$B] ref":    "A.X",
		"A: B[C[$A] ref] ref; B: C[$B] ref":    "",
		"A: A[$A] ref; B: B[(this -> $B)] ref": "B.X",
		"A: B[$A] ref; B: C[$B] ref; C: A[D[$C] ref] ref; D: D[A[$D] ref] ref": "C.X D.X",
		"A: B[A[$A] ref] ref":               "",
		"A: B[A[$A] ref] ref; B: A[$B] ref": "A.X",
	} {
		var p []api.Entity
		for _, part := range strings.Split(s, "; ") {
			if name, typ, ok := strings.Cut(part, ": "); ok {
				p = append(p, entity(t, api.Trait, name, "X", strings.ReplaceAll(typ, "$"+name, "$X")))
			}
		}
		for _, name := range []string{"A", "B", "C", "D"} {
			if !slices.ContainsFunc(p, func(x api.Entity) bool { return x.Name == name }) {
				p = append(p, entity(t, api.Trait, name, "X", ""))
			}
		}
		ends, grow, e := generic.Ends(p)
		if e != api.OK || ends != (want == "") || strings.Join(grow, " ") != want {
			t.Errorf("%s: %v, %v, error %d", s, ends, grow, e)
		}
	}
	var p []api.Entity // a long circle, in which the first one grows
	for i := range 200 {
		arg := "$X"
		if i == 7 {
			arg = "E0[$X] ref"
		}
		p = append(p, entity(t, api.Trait, "E"+strconv.Itoa(i), "X", "E"+strconv.Itoa((i+1)%200)+"["+arg+"] ref"))
	}
	if ends, grow, e := generic.Ends(p); ends || e != api.OK || !slices.Equal(grow, []string{"E7.X"}) {
		t.Errorf("a long circle: %v, %v, error %d", ends, grow, e)
	}
}

// main returns an actor main.Main with a field of a type, whose constructor has a body.
func main(t *testing.T, field string, body ...api.Expr) api.Entity {
	t.Helper()
	x := entity(t, api.Actor, "main.Main", "", "", with(api.New, fun(t, "create", "", "", seq(body...))))
	if field != "" {
		x.Fields = []api.Field{{Name: "x", Type: read(t, field)}}
	}
	return x
}

// TestReify is P10.1 for programs that are fine.
func TestReify(t *testing.T) {
	p := []api.Entity{
		entity(t, api.Interface, "Any", "", ""),
		entity(t, api.Primitive, "U32", "", ""),
		entity(t, api.Class, "Array", "A", ""),
		entity(t, api.Class, "main.Cell", "A", "main.Got[$A] ref"),
		entity(t, api.Trait, "main.Got", "A", "", fun(t, "get", "", "$A", unit(t, "Array[$A] ref"))),
		entity(t, api.Class, "main.Unused", "", ""),
		main(t, "main.Cell[U32 val] ref"),
		entity(t, api.Primitive, "main.Far", "", ""),
	}
	l, e := generic.Reify(p, "main.Main")
	is(t, "the example", `Any
U32
Array[U32 val]
main.Cell[U32 val] is "main.Got[U32 val]" ref
 fun get() U32 val => 26<"Array[U32 val]" ref>
main.Got[U32 val]
 fun get() U32 val => 26<"Array[U32 val]" ref>
main.Main
 x "main.Cell[U32 val]" ref
 new create() - => 10`, showAll(l))
	if e != api.OK {
		t.Errorf("error %d", e)
	}
	p = []api.Entity{
		main(t, "", call(t, "map", "main.C ref^"), call(t, "map", "main.D val"), api.Expr{Op: api.OpNew, Text: "made", Types: readAll(t, "main.C ref; (main.D val | main.C ref)")}),
		entity(t, api.Class, "main.C", "", "",
			generically(t, fun(t, "map", "$X", "main.Cell[$X] ref", call(t, "more", "$X; main.Cell[$X] ref")), "X: main.T box"),
			fun(t, "own", "", "(main.C ref | main.C ref)"),
			with(api.New, generically(t, fun(t, "made", "$X", ""), "X: main.C ref")),
			generically(t, fun(t, "map", "", ""), "X: main.C tag; Y: main.C tag"),
			generically(t, fun(t, "more", "$X", "$Y"), "X: main.T tag; Y: main.Cell[$X] tag")),
		entity(t, api.Class, "main.D", "", "main.T ref", with(api.New, generically(t, fun(t, "made", "", ""), "X: main.T tag"))),
		entity(t, api.Class, "main.Cell", "A: main.T tag", ""),
		entity(t, api.Trait, "main.T", "", ""),
	}
	l, e = generic.Reify(p, "main.Main")
	is(t, "variants", `main.Main
 new create() - => 10 (20map[main.C ref] (3)) (20map[main.D val] (3)) (21made[(main.C ref | main.D val)]<main.C ref>)
main.C
 fun map[main.D val](main.D val) "main.Cell[main.D val]" ref => 20more[main.D val, main.Cell[main.D val] ref] (3)
 fun own() (main.C ref | main.C ref)
 fun more[main.D val, main.Cell[main.D val] ref](main.D val) "main.Cell[main.D val]" ref
main.D is main.T ref
main.Cell[main.D val]
main.T`, showAll(l))
	if e != api.OK {
		t.Errorf("error %d", e)
	}
}

// TestReifyErrors is P10.1 for the errors of Reify, in their order.
func TestReifyErrors(t *testing.T) {
	fine := main(t, "")
	lacks := entity(t, api.Class, "main.C", "", "main.T ref")
	wants := entity(t, api.Trait, "main.T", "", "", fun(t, "f", "", ""))
	grows := entity(t, api.Class, "main.G", "A", "main.G[main.G[$A] ref] ref")
	cell := entity(t, api.Class, "main.Cell", "A: main.T tag", "")
	closed := main(t, "")
	closed.Bounds = bounds(t, "A")
	class := main(t, "")
	class.Kind = api.Class
	bound := main(t, "")
	bound.Methods = []api.Method{with(api.New, generically(t, fun(t, "create", "", ""), "X"))}
	function := main(t, "")
	function.Methods = []api.Method{fun(t, "create", "", "")}
	twice := main(t, "main.Cell[main.T tag] ref")
	variants := func(n int) []api.Entity {
		p := []api.Entity{main(t, ""), entity(t, api.Class, "Any", "", "", generically(t, fun(t, "f", "", ""), "X: Any tag"))}
		for i := range n {
			args := []api.Type{{Kind: api.TypeTuple, Args: []api.Type{types.Named("Any", 1+i%6, nil), types.Named("Any", 1+i/6%6, nil), types.Named("Any", 1+i/36, nil)}}}
			p[0].Methods[0].Body.Kids = append(p[0].Methods[0].Body.Kids, api.Expr{Op: api.OpCall, Text: "f", Types: args, Kids: []api.Expr{{Op: api.OpThis}}})
		}
		p[1].Methods[0].Bounds[0].Type = read(t, "(Any tag | $X)")
		return p
	}
	instances := func(n int) []api.Entity {
		p := []api.Entity{entity(t, api.Class, "main.Box", "A: $A", ""), main(t, "")}
		for i := range n {
			arg := api.Type{Kind: api.TypeTuple, Args: []api.Type{types.Named("main.Main", 1+i%6, nil), types.Named("main.Main", 1+i/6%6, nil), types.Named("main.Main", 1+i/36, nil)}}
			p[1].Fields = append(p[1].Fields, api.Field{Name: "x", Type: types.Named("main.Box", ref, []api.Type{arg})})
			if len(p[1].Fields) == 60 {
				p[1].Methods[0].Params = append(p[1].Methods[0].Params, api.Param{})
				p[1].Methods[0].Body.Kids = append(p[1].Methods[0].Body.Kids, api.Expr{Op: api.OpUnit})
				last := &p[1].Methods[0].Body.Kids[len(p[1].Methods[0].Body.Kids)-1]
				for _, f := range p[1].Fields {
					last.Types = append(last.Types, f.Type)
				}
				p[1].Fields = nil
			}
		}
		return p
	}
	for i, x := range []struct {
		p    []api.Entity
		want api.Errno
	}{
		{nil, api.ErrNone}, {[]api.Entity{class, lacks}, api.ErrNone}, {[]api.Entity{closed, fine}, api.ErrNone}, {[]api.Entity{bound}, api.ErrNone}, {[]api.Entity{function}, api.ErrNone}, {[]api.Entity{fine, class}, api.OK},
		{[]api.Entity{fine, lacks, wants, grows}, generic.ErrMethod}, {[]api.Entity{main(t, "X ref"), grows}, generic.ErrGrow},
		{[]api.Entity{main(t, "X ref")}, api.ErrNone}, {[]api.Entity{main(t, "X[Y[$A] ref] ref")}, api.ErrNone},
		{[]api.Entity{main(t, "main.Cell[X ref, $A] ref"), cell}, api.ErrArg}, {[]api.Entity{main(t, "(main.Cell ref | X ref)"), cell}, api.ErrArg}, {[]api.Entity{main(t, "main.Cell[X ref] ref"), cell}, api.ErrNone},
		{[]api.Entity{main(t, "$A")}, generic.ErrUnbound}, {[]api.Entity{main(t, "main.Cell[$A] ref"), cell}, generic.ErrUnbound}, {[]api.Entity{main(t, "main.Cell[main.Main tag] ref"), cell, wants}, generic.ErrBound},
		{[]api.Entity{main(t, "(main.Cell[main.Main tag] ref | $A)"), cell, wants}, generic.ErrBound}, {[]api.Entity{main(t, "main.Cell[(this tag -> main.T ref)] ref"), cell, wants}, api.ErrCap},
		{[]api.Entity{main(t, "", call(t, "f", "(this tag -> main.Main tag)"))}, api.ErrCap}, {[]api.Entity{main(t, "", call(t, "f", "$A"))}, generic.ErrUnbound}, {[]api.Entity{main(t, "", call(t, strings.Repeat("x", 300), "main.Main tag"))}, api.ErrLarge},
		{[]api.Entity{twice, cell, wants, entity(t, api.Class, "main.Cell[main.T tag]", "", "")}, api.OK},
		{[]api.Entity{main(t, "(main.Cell[main.T tag] ref, \"main.Cell[main.T tag]\" ref)"), cell, wants, entity(t, api.Class, "main.Cell[main.T tag]", "", "")}, api.ErrTwice},
		{[]api.Entity{main(t, "(main.Cell[main.T tag] ref, \"main.Cell[main.T tag]\" ref, $A)"), cell, wants, entity(t, api.Class, "main.Cell[main.T tag]", "", "")}, generic.ErrUnbound},
		{variants(64), api.OK}, {variants(65), api.ErrFull}, {append(variants(65), main(t, "X ref")), api.ErrFull},
		{instances(199), api.OK}, {instances(200), api.ErrFull},
		{[]api.Entity{main(t, "", call(t, "f", "main.Main tag; (main.Main tag | main.T ref)")), entity(t, api.Class, "E", "", "", generically(t, fun(t, "f", "($B -> $A)", ""), "A: $A; B: $B")), wants}, api.ErrForm},
		{[]api.Entity{main(t, "", call(t, "f", "main.Main tag; (main.Main tag | main.T ref)")), entity(t, api.Class, "E", "", "", generically(t, fun(t, "f", "($B -> $A)", ""), "A: $A; B: main.T ref")), wants}, api.OK},
	} {
		l, e := generic.Reify(x.p, "main.Main")
		if e != x.want || e != api.OK && len(l) > 0 {
			t.Errorf("program %d: error %d, want %d", i, e, x.want)
		}
	}
}

// closed asks of a program that was reified what P10.5 says.
func closed(t *testing.T, p []api.Entity) {
	t.Helper()
	seen := map[string]bool{}
	for _, x := range p {
		if seen[x.Name] || len(x.Bounds) > 0 {
			t.Fatalf("%s is there twice, or open", x.Name)
		}
		seen[x.Name] = true
	}
	for _, x := range p {
		var l []api.Type
		l = append(l, x.Provides...)
		for _, f := range x.Fields {
			l = append(l, f.Type)
		}
		for _, m := range x.Methods {
			if len(m.Bounds) > 0 {
				t.Fatalf("%s.%s is open", x.Name, m.Name)
			}
			for _, q := range m.Params {
				l = append(l, q.Type)
			}
			l = append(append(l, m.Result), inBody(m.Body)...)
		}
		for _, y := range l {
			isClosed(t, seen, y)
		}
	}
}

func inBody(x api.Expr) []api.Type {
	l := slices.Clone(x.Types)
	for _, k := range x.Kids {
		l = append(l, inBody(k)...)
	}
	return l
}

func isClosed(t *testing.T, seen map[string]bool, x api.Type) {
	t.Helper()
	if x.Kind == api.TypeParam || x.Kind == api.TypeName && (len(x.Args) > 0 || !seen[x.Name]) {
		t.Fatalf("%v is left", x)
	}
	for _, a := range x.Args {
		isClosed(t, seen, a)
	}
}

// TestDrawn is P10.2 to P10.5 for drawn programs.
func TestDrawn(t *testing.T) {
	counts := map[string]int{}
	for seed := range uint64(1500) {
		m := draw.New(seed)
		p := m.Program(draw.Shape{Entities: 2 + int(seed%5), Generic: seed%4 > 0, Methods: seed%3 == 0, Arguments: seed%3 == 0})
		before := showAll(p)
		whole, e := generic.Whole(p)
		is(t, "the argument", before, showAll(p))
		if e == api.OK {
			counts["whole"]++
			again, e := generic.Whole(whole)
			is(t, "Whole of Whole", showAll(whole), showAll(again))
			if e != api.OK {
				t.Fatalf("seed %d: Whole of Whole: error %d", seed, e)
			}
			sameSupers(t, m, p, whole)
			selected(t, p, whole, counts)
		}
		ends, grow, _ := generic.Ends(p)
		if ends != (len(grow) == 0) {
			t.Fatalf("seed %d: %v, %v", seed, ends, grow)
		}
		edges, _ := generic.Edges(p)
		fewer, _ := generic.Edges(p[:len(p)-1])
		for _, x := range fewer {
			if !slices.Contains(edges, x) {
				t.Fatalf("seed %d: the edge %v is not there", seed, x)
			}
		}
		r, e := generic.Reify(p, "main.Main")
		is(t, "the argument", before, showAll(p))
		counts[fmt.Sprint("reified: ", e)]++
		if ends && e == generic.ErrGrow || seed%4 == 0 && seed%3 > 0 && len(edges) > 0 {
			t.Fatalf("seed %d: %v, error %d", seed, edges, e)
		}
		if e != api.OK {
			continue
		}
		closed(t, r)
		if seed%3 > 0 {
			sameInstances(t, whole, r)
		}
		if again, e := generic.Reify(r, "main.Main"); e == api.OK && seed%3 > 0 {
			counts["again"]++
			isPart(t, r, again)
		}
	}
	for _, k := range []string{"whole", "again", "reified: 0", "reified: 120", "reified: 122", "selected"} {
		if counts[k] < 20 {
			t.Errorf("too few: %v", counts)
			break
		}
	}
}

// sameSupers asks whether concrete entities of a whole program are still subtypes of what they were subtypes of.
func sameSupers(t *testing.T, m *draw.Maker, p, whole []api.Entity) {
	t.Helper()
	for range 20 {
		a, b := m.Type(1), m.Type(1)
		i, e := subtype.Find(p, a.Name)
		if e == api.OK && p[i].Kind <= api.Primitive && subtype.Is(p, a, b) && !subtype.Is(whole, a, b) {
			t.Fatalf("%s is no %s any more", typ(a), typ(b))
		}
	}
}

// selected asks whether Find and Whole agree, and whether bodies come from where they are said to come from.
func selected(t *testing.T, p, whole []api.Entity, counts map[string]int) {
	t.Helper()
	for i, x := range p {
		for _, m := range whole[i].Methods {
			if x.Kind > api.Primitive || m.Kind == api.New {
				continue
			}
			f, from, e := generic.Find(p, x.Name, m.Name)
			is(t, x.Name+"."+m.Name, method(m), method(f))
			j, e2 := subtype.Find(p, from)
			if e != api.OK || e2 != api.OK {
				t.Fatalf("%s.%s: errors %d, %d", x.Name, m.Name, e, e2)
			}
			k := slices.IndexFunc(p[j].Methods, func(n api.Method) bool { return n.Name == m.Name })
			if m.Body.Op > 0 && (k < 0 || p[j].Methods[k].Body.Op == 0) {
				t.Fatalf("%s.%s has no body", from, m.Name)
			}
			if i != j {
				counts["selected"]++
			}
		}
	}
}

// flat returns a type with the names of instances.
func flat(x api.Type) api.Type {
	if x.Kind == api.TypeName {
		x.Name, _ = generic.Named(x.Name, x.Args)
		x.Args = nil
	}
	x.Args = slices.Clone(x.Args)
	for i, a := range x.Args {
		x.Args[i] = flat(a)
	}
	return x
}

// sameInstances is P10.3: without generic methods all entities are instances, but for flat types.
func sameInstances(t *testing.T, whole, r []api.Entity) {
	t.Helper()
	for _, x := range r {
		name, rest, _ := strings.Cut(x.Name, "[")
		var args []api.Type
		if rest != "" {
			a, e := types.Parse(strings.TrimSuffix(rest, "]"))
			if e != api.OK {
				t.Fatalf("%s: error %d", x.Name, e)
			}
			args = []api.Type{a}
		}
		i, e := generic.Instance(whole, name, args)
		if e != api.OK {
			t.Fatalf("Instance of %s: error %d", x.Name, e)
		}
		for j, y := range i.Provides {
			i.Provides[j] = flat(y)
		}
		for j, f := range i.Fields {
			i.Fields[j].Type = flat(f.Type)
		}
		for j, m := range i.Methods {
			for k, q := range m.Params {
				m.Params[k].Type = flat(q.Type)
			}
			i.Methods[j].Result = flat(m.Result)
			i.Methods[j].Body = flatBody(m.Body)
		}
		is(t, "an instance", show(i), show(x))
	}
}

func flatBody(x api.Expr) api.Expr {
	x.Types, x.Kids = slices.Clone(x.Types), slices.Clone(x.Kids)
	for i, y := range x.Types {
		x.Types[i] = flat(y)
	}
	for i, k := range x.Kids {
		x.Kids[i] = flatBody(k)
	}
	return x
}

// isPart asks whether a program is a part of another one, in its order.
func isPart(t *testing.T, whole, part []api.Entity) {
	t.Helper()
	at := 0
	for _, x := range part {
		for at < len(whole) && !reflect.DeepEqual(show(whole[at]), show(x)) {
			at++
		}
		if at == len(whole) {
			t.Fatalf("%s is not there:\n%s", show(x), showAll(whole))
		}
	}
}
