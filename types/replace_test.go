package types_test

import (
	"reflect"
	"slices"
	"strings"
	"testing"

	"hackamore/api"
	"hackamore/draw"
	"hackamore/types"
)

// TestSubst is P8.1 for single types.
func TestSubst(t *testing.T) {
	for _, x := range []struct{ s, params, args, want string }{
		{"$A ref^", "A", "main.Cell iso", "main.Cell ref"},
		{"$A!", "A", "main.Cell iso", "main.Cell iso!"},
		{"$A!", "A", "main.Cell iso^", "main.Cell iso!"},
		{"$A!", "A", "(A trn^, B trn, C ref^, $D^, this)", "(A trn!, B trn!, C ref, $D!, this!)"},
		{"$A^", "A", "(A iso, B iso!, C val!, $D)", "(A iso^, B iso!, C val, $D^)"},
		{"$A", "A", "(A iso^ | $A)", "(A iso^ | $A)"},
		{"$A trn^", "A", "(A val, (this -> B iso))", "(A trn^, B trn^)"},
		{"$A iso!", "A", "(A val^ & $B)", "(A iso! & $B iso!)"},
		{"Cell[$A, $B] ref", "A B", "A ref; $A", "Cell[A ref, $A] ref"},
		{"Cell[$A, $B] ref", "B B", "A ref; $A", "Cell[$A, A ref] ref"},
		{"Cell[$A] ref", "", "", "Cell[$A] ref"},
		{"($A -> B ref)", "A", "main.Cell trn^", "(this trn^ -> B ref)"},
		{"($A box! -> $A)", "A", "main.Cell trn^", "(this box -> main.Cell trn^)"},
		{"($A! -> B ref)", "A", "this iso", "(this iso! -> B ref)"},
		{"($A^ -> B ref)", "A", "$C", "($C^ -> B ref)"},
		{"($A -> B ref)", "A", "(A ref | B ref)", "2"},
		{"($A -> B ref)", "A", "(this -> B ref)", "2"},
		{"($A val -> B ref)", "A", "(this -> B ref)", "(this val -> B ref)"},
		{"($C -> $A)", "A", "A ref", "($C -> A ref)"},
		{"(this -> $A)", "A", "A ref", "(this -> A ref)"},
	} {
		params := strings.Fields(x.params)
		is(t, "Subst of "+x.s+" by "+x.args, x.want, shown(types.Subst(read(t, x.s), params, readAll(t, x.args))))
		is(t, "one more", "1", shown(types.Subst(api.Type{}, append(params, "X"), readAll(t, x.args))))
	}
	a := types.Named("A", ref, nil)
	is(t, "the type first", "4", shown(types.Subst(deep(21), []string{"A"}, []api.Type{{}})))
	is(t, "the first of the args", "2", shown(types.Subst(a, []string{"A", "B", "C"}, []api.Type{a, {}, deep(21)})))
	is(t, "behind the args", "4", shown(types.Subst(read(t, "($A -> B ref)"), []string{"A", "B"}, []api.Type{read(t, "(A ref | B ref)"), deep(21)})))
	p := api.Type{Kind: api.TypeParam, Name: "A"}
	is(t, "the greatest depth", shown(deep(20), 0), shown(types.Subst(types.Named("A", ref, []api.Type{p}), []string{"A"}, []api.Type{deep(19)})))
	is(t, "too deep", "4", shown(types.Subst(types.Named("A", ref, []api.Type{p}), []string{"A"}, []api.Type{deep(20)})))
	is(t, "too large", "4", shown(types.Subst(types.Named("A", ref, []api.Type{p, a}), []string{"A"}, []api.Type{wide(299)})))
	if x, e := types.Subst(types.Named("A", ref, []api.Type{p, a}), []string{"A"}, []api.Type{wide(298)}); e != api.OK {
		t.Errorf("300 nodes: %v, error %d", x, e)
	}
}

// TestSelf is P8.1 for the receiver.
func TestSelf(t *testing.T) {
	for _, x := range []struct {
		s       string
		c, mark int
		want    string
	}{
		{"(this -> main.Cell ref)", val, 0, "main.Cell val"},
		{"(this -> main.Cell ref)", iso, 2, "13"},
		{"(this -> main.Cell ref)", trn, 2, "main.Cell box"},
		{"(this^ -> main.Cell ref)", trn, 0, "main.Cell box"},
		{"Cell[this, this!, this tag!] ref", trn, 1, "Cell[this trn^, this trn^, this tag!] ref"},
		{"Cell[(this -> (this val -> (A ref, $A iso)))] ref", box, 0, "Cell[(A val, $A val)] ref"},
		{"(this -> $A)", box, 0, "2"},
		{"($A -> A ref)", box, 0, "($A -> A ref)"},
		{"($A -> (this -> A ref))", box, 0, "($A -> A box)"},
		{"(this -> ($A -> A ref))", box, 0, "2"},
		{"(this -> ($A ref -> A ref))", box, 0, "A box"},
		{"((this -> A ref), (this tag -> A ref))", box, 0, "13"},
		{"A ref", 0, 3, "13"}, {"A ref", 7, 0, "13"}, {"A ref", ref, 3, "1"}, {"A ref", ref, -1, "1"},
	} {
		is(t, "Self of "+x.s, x.want, shown(types.Self(read(t, x.s), x.c, x.mark)))
	}
	is(t, "the type first", "2", shown(types.Self(api.Type{}, 0, 3)))
	is(t, "the type first", "4", shown(types.Self(deep(21), 0, 3)))
	x, _ := types.Subst(read(t, "(this -> $A)"), []string{"A"}, readAll(t, "main.Cell ref"))
	is(t, "the example", "main.Cell val", shown(types.Self(x, val, 0)))
}

// TestReplacing is P8.4 for drawn types.
func TestReplacing(t *testing.T) {
	params := []string{"A", "B", "this", "C D"}
	var own []api.Type
	for _, p := range params {
		own = append(own, api.Type{Kind: api.TypeParam, Name: p})
	}
	reified := 0
	for seed := range uint64(4000) {
		m := maker(seed)
		x := m.Type(1 + m.Below(4))
		before, _ := types.Text(x)
		is(t, "Subst by others of "+before, before, shown(types.Subst(x, []string{"X", "Y"}, []api.Type{m.Type(2), m.Type(2)})))
		y, e := types.Subst(x, params, own)
		if e != api.OK {
			t.Fatalf("Subst of %s by its parameters: error %d", before, e)
		}
		n, e := types.Normal(x)
		is(t, "Subst by the parameters of "+before, shown(n, e), shown(types.Normal(y)))

		m.Arrows, m.Open, m.Params = false, false, nil
		args := []api.Type{m.Type(1), m.Type(2), m.Type(2), m.Type(1)}
		y, e = types.Subst(x, params, args)
		if e == api.OK {
			y, e = types.Self(y, m.Cap(), m.Below(3))
		}
		if e == api.OK {
			reified++
			if !types.Reified(y) {
				t.Fatalf("%s becomes %s", before, shown(y, e))
			}
		}
		is(t, "the argument", before, shown(x, api.OK))
	}
	if reified < 2000 {
		t.Errorf("%d types are reified", reified)
	}
}

// TestTwice is P8.4: Subst twice is Subst with the replaced arguments.
func TestTwice(t *testing.T) {
	for seed := range uint64(2000) {
		m := maker(seed)
		m.Params, m.Arrows = nil, false
		x := bareParams(m, m.Type(3))
		args := []api.Type{bareParams(m, m.Type(2)), bareParams(m, m.Type(2))}
		last := []api.Type{m.Type(2), m.Type(2)}
		params := []string{"A", "B"}
		once, e := types.Subst(x, params, args)
		if e != api.OK {
			t.Fatalf("seed %d: error %d", seed, e)
		}
		var replaced []api.Type
		for _, a := range args {
			r, _ := types.Subst(a, params, last)
			replaced = append(replaced, r)
		}
		is(t, "twice", shown(types.Subst(once, params, last)), shown(types.Subst(x, params, replaced)))
	}
}

// bareParams puts type parameters without capabilities and marks into a type.
func bareParams(m *draw.Maker, t api.Type) api.Type {
	if m.Below(3) == 0 {
		return api.Type{Kind: api.TypeParam, Name: draw.One(m, "A", "B")}
	}
	args := slices.Clone(t.Args)
	for i, a := range args {
		args[i] = bareParams(m, a)
	}
	t.Args = args
	return t
}

func lit(l ...api.Type) api.Expr { return api.Expr{Op: api.OpUnit, Types: l} }

// TestMethod is P8.1 for methods.
func TestMethod(t *testing.T) {
	m := api.Method{
		Kind: api.Fun, Name: "f", Cap: box, Partial: true,
		Bounds: []api.Bound{{Name: "A", Type: read(t, "$B val")}, {Name: "C", Type: read(t, "Cell[$A] ref")}, {Name: "D"}},
		Params: []api.Param{{Name: "x", Type: read(t, "$A!")}, {Name: "y", Type: read(t, "$C")}},
		Result: read(t, "(this -> $B)"),
		Body:   api.Expr{Op: api.OpSeq, Text: "s", Types: readAll(t, "$A; $B"), Kids: []api.Expr{lit(readAll(t, "$C; $A iso")...), lit(api.Type{})}},
	}
	want := api.Method{
		Kind: api.Fun, Name: "f", Cap: box, Partial: true,
		Bounds: []api.Bound{{Name: "C", Type: read(t, "Cell[X iso] ref")}, {Name: "D"}},
		Params: []api.Param{{Name: "x", Type: read(t, "X iso!")}, {Name: "y", Type: read(t, "$C")}},
		Result: read(t, "(this -> Y val)"),
		Body:   api.Expr{Op: api.OpSeq, Text: "s", Types: readAll(t, "X iso; Y val"), Kids: []api.Expr{lit(readAll(t, "$C; X iso")...), lit(api.Type{})}},
	}
	got, e := types.Method(m, []string{"A", "B"}, readAll(t, "X iso; Y val"))
	if e != api.OK || !reflect.DeepEqual(got, want) {
		t.Errorf("Method: %v, error %d, want %v", got, e, want)
	}
	a, union := types.Named("A", ref, nil), read(t, "(A ref | B ref)")
	arrow := read(t, "($A -> B ref)")
	wrong := types.Named("A", api.CapAny, nil)
	params := func(l ...api.Type) api.Method {
		m := api.Method{}
		for _, x := range l {
			m.Params = append(m.Params, api.Param{Type: x})
		}
		return m
	}
	large := api.Expr{Op: api.OpSeq, Kids: make([]api.Expr, 3999)}
	larger := api.Expr{Op: api.OpSeq, Kids: make([]api.Expr, 4000)}
	tall := api.Expr{Op: api.OpRecover}
	for range 99 {
		tall = api.Expr{Op: api.OpRecover, Kids: []api.Expr{tall}}
	}
	for i, x := range []struct {
		m      api.Method
		params []string
		args   []api.Type
		want   api.Errno
	}{
		{api.Method{Body: larger}, []string{"A"}, nil, api.ErrArg},
		{api.Method{Body: larger, Result: wrong}, []string{"A"}, []api.Type{{}}, api.ErrSize},
		{api.Method{Body: large}, nil, nil, api.OK},
		{api.Method{Body: tall}, nil, nil, api.OK},
		{api.Method{Body: api.Expr{Op: api.OpRecover, Kids: []api.Expr{tall}}}, nil, nil, api.ErrSize},
		{api.Method{Bounds: []api.Bound{{Name: "B", Type: wrong}}, Result: deep(21)}, []string{"A"}, []api.Type{a}, api.ErrForm},
		{api.Method{Bounds: []api.Bound{{Name: "A", Type: wrong}}, Result: deep(21)}, []string{"A"}, []api.Type{a}, api.ErrSize},
		{api.Method{Bounds: []api.Bound{{Name: "A", Type: wrong}}}, []string{"A"}, []api.Type{a}, api.OK},
		{params(a, deep(21), wrong), []string{"A"}, []api.Type{a}, api.ErrSize},
		{params(a, wrong, deep(21)), []string{"A"}, []api.Type{a}, api.ErrForm},
		{params(a, wrong), []string{"A"}, []api.Type{deep(21)}, api.ErrSize},
		{params(arrow, deep(21)), []string{"A"}, []api.Type{union}, api.ErrForm},
		{api.Method{Result: wrong, Body: lit(deep(21))}, nil, nil, api.ErrForm},
		{api.Method{Body: api.Expr{Op: api.OpSeq, Kids: []api.Expr{{Op: api.OpUnit, Kids: []api.Expr{lit(deep(21))}}, lit(wrong)}}}, nil, nil, api.ErrSize},
		{api.Method{Body: api.Expr{Op: api.OpSeq, Types: []api.Type{wrong}, Kids: []api.Expr{lit(deep(21))}}}, nil, nil, api.ErrForm},
		{api.Method{}, []string{"A"}, []api.Type{deep(21)}, api.ErrSize},
		{params(api.Type{}), []string{"A"}, []api.Type{wrong}, api.ErrForm},
	} {
		got, e := types.Method(x.m, x.params, x.args)
		if e != x.want || e != api.OK && !reflect.DeepEqual(got, api.Method{}) {
			t.Errorf("method %d: error %d, want %d", i, e, x.want)
		}
	}
}

// TestMethodMemory: a method that is returned shares no memory with the one that was handed in.
func TestMethodMemory(t *testing.T) {
	m := api.Method{Params: []api.Param{{Name: "x", Type: read(t, "Cell[A val] ref")}}, Bounds: []api.Bound{{Name: "B", Type: read(t, "(A val | B val)")}}, Body: api.Expr{Op: api.OpSeq, Kids: []api.Expr{lit(read(t, "Cell[A val] ref"))}}}
	got, e := types.Method(m, nil, nil)
	if e != api.OK {
		t.Fatalf("error %d", e)
	}
	got.Params[0].Type.Args[0].Name = "X"
	got.Params[0].Name = "X"
	got.Bounds[0].Type.Args[0].Name = "X"
	got.Body.Kids[0].Types[0].Args[0].Name = "X"
	got.Body.Kids[0].Op = 0
	if m.Params[0].Type.Args[0].Name != "A" || m.Params[0].Name != "x" || m.Bounds[0].Type.Args[0].Name != "A" || m.Body.Kids[0].Types[0].Args[0].Name != "A" || m.Body.Kids[0].Op != api.OpUnit {
		t.Error("the method was changed")
	}
}
