package check_test

import (
	"reflect"
	"slices"
	"testing"

	"hackamore/api"
	"hackamore/cap"
	"hackamore/check"
	"hackamore/draw"
	"hackamore/exprs"
	"hackamore/flow"
	"hackamore/notation"
	"hackamore/subtype"
	"hackamore/types"
)

// spot is a node of a body: what stands there, and its context.
type spot struct {
	path []int
	x    api.Expr
	c    check.Context
}

// spots returns the nodes of a body with their contexts, each found by itself.
func spots(t *testing.T, p []api.Entity, i, j int) []spot {
	t.Helper()
	begin, e := check.Begin(p, i, j)
	if e != api.OK {
		t.Fatalf("Begin: error %d", e)
	}
	var l []spot
	for at, x := range exprs.Walk(p[i].Methods[j].Body) {
		l = append(l, spot{path: slices.Clone(at), x: x})
	}
	for k := range l {
		l[k].c = begin
		l[k].c.Locals = append(slices.Clone(begin.Locals), ahead(l, k)...)
		for n, s := range recovers(l) {
			if isWithin(l[k].path, s.path) {
				l[k].c.Regions = append(l[k].c.Regions, n+1)
			}
		}
	}
	return l
}

// isWithin reports whether a path leads into a Kid of another one.
func isWithin(inner, outer []int) bool {
	return len(inner) > len(outer) && slices.Equal(inner[:len(outer)], outer)
}

// recovers returns the recover blocks, in the order of the walk.
func recovers(l []spot) []spot {
	var out []spot
	for _, s := range l {
		if s.x.Op == api.OpRecover {
			out = append(out, s)
		}
	}
	return out
}

// ahead returns the local variables that are declared ahead of a node.
func ahead(l []spot, k int) []check.Local {
	var out []check.Local
	// Those of an OpVar and an OpLet are declared behind all that is within it.
	var open []spot
	closed := func(at []int) {
		for len(open) > 0 && !isWithin(at, open[len(open)-1].path) {
			out = append(out, variable(l, open[len(open)-1], l[k].path))
			open = open[:len(open)-1]
		}
	}
	for _, s := range l[:k] {
		closed(s.path)
		switch s.x.Op {
		case api.OpVar, api.OpLet:
			open = append(open, s)
		case api.OpCase:
			if s.x.Text != "" {
				out = append(out, variable(l, s, l[k].path))
			}
		}
	}
	closed(l[k].path)
	return out
}

// variable returns the local variable that a node declares, as it is at a place.
func variable(l []spot, s spot, at []int) check.Local {
	v := check.Local{Name: s.x.Text, Type: s.x.Types[0], Param: s.x.Op == api.OpCase, Always: len(s.x.Kids) > 0}
	for n, r := range recovers(l) {
		if isWithin(s.path, r.path) {
			v.Region = n + 1
		}
	}
	if v.Param && isWithin(append(slices.Clone(at), 0), append(slices.Clone(s.path), 0)) {
		v.Type, _ = types.Aliased(v.Type)
		v.Type, _ = types.Aliased(v.Type)
	}
	if slices.ContainsFunc(l, func(o spot) bool { return o.x.Op == api.OpConsume && o.x.Text == v.Name }) {
		v.Always = false
	}
	return v
}

// inferred returns the types of a body by Rule, node by node, or the first error in the order in which types are found.
func inferred(p []api.Entity, l []spot) ([]api.Type, []int, api.Errno) {
	out := make([]api.Type, len(l))
	var find func(k int) ([]int, api.Errno)
	find = func(k int) ([]int, api.Errno) {
		if l[k].x.Op == 0 {
			return nil, api.OK
		}
		var kids []api.Type
		for n := range l {
			if len(l[n].path) == len(l[k].path)+1 && isWithin(l[n].path, l[k].path) {
				if at, e := find(n); e != api.OK {
					return at, e
				}
				kids = append(kids, out[n])
			}
		}
		var e api.Errno
		out[k], e = check.Rule(p, l[k].c, l[k].x, kids)
		return l[k].path, e
	}
	at, e := find(0)
	return out, at, e
}

// raising returns the paths of what is partial.
func raising(p []api.Entity, l []spot, typ []api.Type) [][]int {
	var out [][]int
	for k, s := range l {
		var m api.Method
		switch s.x.Op {
		case api.OpCall:
			m, _ = subtype.Lookup(p, typ[k+1], s.x.Text)
		case api.OpNew:
			i, _ := subtype.Find(p, s.x.Types[0].Name)
			m = p[i].Methods[slices.IndexFunc(p[i].Methods, func(m api.Method) bool { return m.Name == s.x.Text })]
		}
		if m.Partial {
			out = append(out, s.path)
		}
	}
	return out
}

// expected returns what Method must return of a body whose shape is right.
func expected(t *testing.T, p []api.Entity, i, j int) ([]api.Type, []int, api.Errno) {
	t.Helper()
	l := spots(t, p, i, j)
	typ, at, e := inferred(p, l)
	if e != api.OK {
		return nil, at, e
	}
	m := p[i].Methods[j]
	if m.Kind == api.Fun && !types.Equal(m.Result, api.Type{}) && !types.Equal(m.Result, notation.Type("None val")) {
		want, e := types.Self(m.Result, m.Cap, api.Plain)
		if e != api.OK || !types.Equal(typ[0], api.Type{}) && !subtype.Is(p, typ[0], want) {
			return nil, nil, check.ErrResult
		}
	}
	r, e := flow.Check(p[i], j, raising(p, l, typ))
	if e != api.OK {
		return nil, nil, e
	}
	if len(r.Faults) > 0 {
		return nil, r.Faults[0].Path, r.Faults[0].Code
	}
	return typ, nil, api.OK
}

// TestDrawn is P13.2: the types of drawn programs are those that Rule gives, in contexts that are found otherwise.
func TestDrawn(t *testing.T) {
	nodes, ops := 0, map[int]bool{}
	for seed := range uint64(60) {
		p := draw.New(seed).Core()
		c, f, e := check.Check(p)
		if e != api.OK {
			t.Fatalf("seed %d: error %d at %v", seed, e, f)
		}
		for _, b := range c.Bodies {
			want, _, e := expected(t, p, b.Entity, b.Method)
			if e != api.OK || !slices.EqualFunc(b.Types, want, types.Equal) {
				t.Fatalf("seed %d: %s.%s: error %d\n%s\n%s", seed, p[b.Entity].Name, p[b.Entity].Methods[b.Method].Name, e, shownAll(b.Types), shownAll(want))
			}
			nodes += len(b.Types)
			for _, x := range exprs.Walk(p[b.Entity].Methods[b.Method].Body) {
				ops[x.Op] = true
			}
		}
	}
	if len(ops) != api.OpLast+1 || nodes < 10000 {
		t.Errorf("%d operations, %d nodes", len(ops), nodes)
	}
}

// spoilt returns an expression in which one node is another one.
func spoilt(m *draw.Maker, x api.Expr) api.Expr {
	if len(x.Kids) > 0 && m.Below(6) > 0 {
		k := m.Below(len(x.Kids))
		x.Kids = slices.Clone(x.Kids)
		x.Kids[k] = spoilt(m, x.Kids[k])
		return x
	}
	switch m.Below(7) {
	case 0:
		return notation.Expr(draw.One(m, "this", "error", "break", "lit.1{U32 val}", "unit{None val}", "new.make{main.C0 ref}", "local.x", "local.l1", "consume.l1", "consume.x", "-", "seq", "(recover{this} local.x)", "(get.a this)", "(call.get this)", "(return this)"))
	case 1:
		return api.Expr{Op: api.OpRecover, Types: []api.Type{{Kind: api.TypeSelf, Cap: m.Below(7)}}, Kids: []api.Expr{x}}
	case 2:
		x.Text = draw.One(m, "", "x", "l1", "l2", "a", "get", "make", "f0", "next")
	case 3:
		if len(x.Types) > 0 {
			x.Types = []api.Type{notation.Type(draw.One(m, "U32 val", "main.C0 ref", "main.C0 iso", "main.C0 trn", "main.C0 val", "main.I box", "Any tag", "(main.C0 iso | None val)", "this", "$A", "(main.T ref & main.I box)"))}
		}
	case 4:
		if len(x.Kids) > 0 {
			x.Kids = slices.Delete(slices.Clone(x.Kids), 0, 1)
		}
	case 5:
		if len(x.Kids) > 0 {
			x.Kids = append(slices.Clone(x.Kids), x.Kids[0])
		}
	case 6:
		x.Op = m.Below(30) - 1
	}
	return x
}

// TestSpoilt is P13.1 to P13.3 for drawn programs in which something is wrong: Method returns the first error, in its order, and
// Check that of the first Method.
func TestSpoilt(t *testing.T) {
	seen := map[api.Errno]int{}
	for seed := range uint64(30) {
		m := draw.New(seed)
		p := m.Core()
		for range 60 {
			i := len(p) - 1 - m.Below(4)
			j := m.Below(len(p[i].Methods))
			q := slices.Clone(p)
			q[i].Methods = slices.Clone(p[i].Methods)
			q[i].Methods[j].Body = spoilt(m, p[i].Methods[j].Body)
			b, f, e := check.Method(q, i, j)
			seen[e]++
			at, want := check.Shape(q[i].Methods[j].Body)
			var typ []api.Type
			if want == api.OK && q[i].Methods[j].Body.Op != 0 {
				typ, at, want = expected(t, q, i, j)
			}
			fault := check.Fault{Entity: i, Method: j, Path: at}
			if want == api.OK {
				fault = check.Fault{}
			}
			isFault(t, "a spoilt body", f, e, fault, want)
			if !slices.EqualFunc(b.Types, typ, types.Equal) {
				t.Fatalf("seed %d: types of a spoilt body: %s, want %s", seed, shownAll(b.Types), shownAll(typ))
			}
			c, f, e := check.Check(q)
			if f2, e2 := check.Program(q); e2 != api.OK {
				isFault(t, "Check where Program fails", f, e, f2, e2)
			} else if isFault(t, "Check where one Method fails", f, e, fault, want); want == api.OK && len(c.Bodies) == 0 {
				t.Fatal("no bodies")
			}
		}
	}
	for _, e := range []api.Errno{api.OK, api.ErrForm, api.ErrScope, api.ErrType, api.ErrNone, check.ErrArgs, check.ErrResult, check.ErrView, check.ErrSend, check.ErrPlace, check.ErrCases, flow.ErrUnset, flow.ErrField, flow.ErrPartial, flow.ErrDead, flow.ErrLoop} {
		if seen[e] == 0 {
			t.Errorf("no error %d", e)
		}
	}
}

// TestAdded is P13.3: an entity that nothing names, and that is right, changes nothing else.
func TestAdded(t *testing.T) {
	for seed := range uint64(20) {
		p := draw.New(seed).Core()
		c, _, _ := check.Check(p)
		q := append(slices.Clone(p), notation.Program("class ref main.Unused\nvar a: main.C0 trn\nnew ref create() => (set.a this new.make{main.C0 ref})")...)
		d, f, e := check.Check(q)
		if e != api.OK || len(d.Bodies) != len(c.Bodies)+1 || !reflect.DeepEqual(d.Bodies[:len(c.Bodies)], c.Bodies) {
			t.Fatalf("seed %d: error %d at %v", seed, e, f)
		}
		q[len(q)-1].Methods[0].Body = notation.Expr("local.x")
		_, f, e = check.Check(q)
		isFault(t, "a wrong one", f, e, check.Fault{Entity: len(p)}, api.ErrScope)
	}
}

// TestPermitted is P13.4 for drawn programs.
func TestPermitted(t *testing.T) {
	read, written, sent, met := 0, 0, 0, 0
	counted := func(t api.Type) int {
		switch {
		case t.Mark == api.Aliased && t.Cap == api.Iso:
			return api.Tag
		case t.Mark == api.Aliased && t.Cap == api.Trn:
			return api.Box
		}
		return t.Cap
	}
	for seed := range uint64(60) {
		p := draw.New(seed).Core()
		c, _, _ := check.Check(p)
		for _, b := range c.Bodies {
			l := spots(t, p, b.Entity, b.Method)
			for k, s := range l {
				switch s.x.Op {
				case api.OpGet:
					if o := counted(b.Types[k+1]); o == api.Box || o == api.Val {
						read++
						if types.Storable(api.Ref, b.Types[k]) && writes(b.Types[k]) {
							t.Errorf("%s is read through %s", shown(b.Types[k]), shown(b.Types[k+1]))
						}
					}
				case api.OpSet:
					written++
					if !cap.Writes(counted(b.Types[k+1])) {
						t.Errorf("written through %s", shown(b.Types[k+1]))
					}
				case api.OpCall, api.OpNew:
					for _, x := range received(p, s.x, b.Types[min(k+1, len(b.Types)-1)]) {
						sent++
						if !types.Sendable(x.Type) {
							t.Errorf("%s is sent", shown(x.Type))
						}
					}
				case api.OpLocal, api.OpConsume:
					i := len(s.c.Locals) - 1
					for s.c.Locals[i].Name != s.x.Text {
						i--
					}
					if n := len(s.c.Regions); n > 0 && s.c.Locals[i].Region != s.c.Regions[n-1] {
						met++
						if !types.Sendable(s.c.Locals[i].Type) {
							t.Errorf("%s is met in a recover block", shown(s.c.Locals[i].Type))
						}
					}
				}
			}
		}
	}
	if read < 20 || written < 200 || sent < 200 || met < 10 {
		t.Errorf("%d, %d, %d, %d", read, written, sent, met)
	}
}

// writes reports whether a part of a type writes.
func writes(t api.Type) bool {
	if t.Kind == api.TypeName {
		return cap.Writes(t.Cap) && t.Mark != api.Aliased
	}
	return slices.ContainsFunc(t.Args, writes)
}

// received returns the parameters of a behaviour, or of an actor's constructor, that is called.
func received(p []api.Entity, x api.Expr, of api.Type) []api.Param {
	if x.Op == api.OpCall {
		if m, e := subtype.Lookup(p, of, x.Text); e == api.OK && m.Kind == api.Be {
			return m.Params
		}
		return nil
	}
	i, e := subtype.Find(p, x.Types[0].Name)
	if e != api.OK || p[i].Kind != api.Actor {
		return nil
	}
	for _, m := range p[i].Methods {
		if m.Name == x.Text {
			return m.Params
		}
	}
	return nil
}

// TestWeakerPlaces is P13.5: where a value fits, a value of a subtype fits.
func TestWeakerPlaces(t *testing.T) {
	found := 0
	for seed := range uint64(40) {
		m := draw.New(seed)
		p := m.Core()
		c := check.Context{Entity: len(p) - 1}
		m.Names, m.Marks = []string{"main.C0", "main.C1", "U32", "main.A0", "main.T"}, true
		for range 300 {
			a, b, want := m.Type(1+m.Below(2)), m.Type(1+m.Below(2)), m.Type(1+m.Below(2))
			x := api.Expr{Op: api.OpLet, Text: "x", Types: []api.Type{want}, Kids: []api.Expr{{Op: api.OpThis}}}
			_, e := check.Rule(p, c, x, []api.Type{a})
			if e != api.OK || !subtype.Is(p, b, a) {
				continue
			}
			found++
			if _, e := check.Rule(p, c, x, []api.Type{b}); e != api.OK {
				t.Errorf("%s fits %s, and not %s: error %d", shown(a), shown(want), shown(b), e)
			}
		}
	}
	if found < 30 {
		t.Errorf("%d subtypes", found)
	}
}

// TestGarbage is P13.1 for all arguments: nothing panics, errors have no other results, and asked again the answer is the same.
func TestGarbage(t *testing.T) {
	for seed := range uint64(60) {
		m := draw.New(seed)
		p := m.Program(draw.Shape{Entities: 6, Generic: seed%2 == 0, Methods: seed%3 == 0, Arguments: true})
		m.Params, m.Marks, m.Arrows, m.Open = []string{"A"}, true, true, true
		for i := range p {
			for j := range p[i].Methods {
				b, f, e := check.Method(p, i, j)
				if e != api.OK && (len(b.Types) > 0 || f.Entity != i || f.Method != j) || e == api.OK && !reflect.DeepEqual(f, check.Fault{}) {
					t.Fatalf("seed %d: %v, %v, error %d", seed, b, f, e)
				}
			}
		}
		c, f, e := check.Check(p)
		d, g, e2 := check.Check(p)
		if !reflect.DeepEqual(c, d) || !reflect.DeepEqual(f, g) || e != e2 {
			t.Fatalf("seed %d: another answer", seed)
		}
		for range 400 {
			x := api.Expr{Op: m.Below(30) - 1, Text: draw.One(m, "", "x", "f", "create", "0", "true")}
			for range m.Below(3) {
				x.Types = append(x.Types, m.Spoil(m.Type(2)))
			}
			var kids []api.Type
			for range m.Below(4) {
				x.Kids = append(x.Kids, draw.One(m, api.Expr{}, api.Expr{Op: api.OpThis}, api.Expr{Op: api.OpCase, Types: []api.Type{m.Spoil(m.Type(2))}, Kids: make([]api.Expr, 2)}))
				kids = append(kids, draw.One(m, api.Type{}, m.Type(2), m.Spoil(m.Type(2)), notation.Type("Bool val")))
			}
			c := check.Context{Entity: m.Below(len(p)+1) - 1, Method: m.Below(3) - 1, Locals: []check.Local{{Name: "x", Type: m.Spoil(m.Type(2)), Region: m.Below(3) - 1}}, Regions: []int{m.Below(3) - 1}}
			got, e := check.Rule(p, c, x, kids)
			again, e2 := check.Rule(p, c, x, kids)
			if e != e2 || !types.Equal(got, again) || e != api.OK && !types.Equal(got, api.Type{}) {
				t.Fatalf("seed %d: %v: %v, error %d", seed, x, got, e)
			}
			check.Shape(x)
			check.Claims(p, m.Spoil(m.Type(3)), m.Spoil(m.Type(3)))
		}
	}
}
