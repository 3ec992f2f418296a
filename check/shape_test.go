package check_test

import (
	"slices"
	"strings"
	"testing"

	"hackamore/api"
	"hackamore/check"
	"hackamore/notation"
)

// TestShape is P13.1 for the forms of all operations.
func TestShape(t *testing.T) {
	long := strings.Repeat("x", 60)
	for _, s := range []string{
		"-", `lit.""{U8 val}`, "lit.x{main.C iso^}", "local.x", "local." + long, "consume.x", "this", "error", "break", "continue", "(get.x this)", "(set.x this this)",
		"var.x{$A}", "(var.x{(this -> $A)} this)", "let.x{this}", "(let.x{(U8 val | None val)} this)", "(assign.x this)", "seq", "(seq this error)",
		"(if this this this)", "(if this this -)", "(while this this -)", "(while this this this)", "(match this (case{U8 val} - this))",
		"(match this (case.x{U8 val} this this) (case." + long + "{U8 val} - this))", "(try this - -)", "(try this this -)", "(try this this this)", "(try this - this)",
		"return", "(return this)", "(call.x this)", "(call.x this this this)", "new.x{U8 val}", "(new.x{U8 val} this this)", "(recover{this} this)", "(recover{this iso!} this)",
		"(tuple this this)", "(tuple " + strings.Repeat("this ", 64) + ")", "(item.0 this)", "(item.63 this)", "(item.10 this)", "(is this this)", "unit{None val}", "unit{None[U8 val] ref}",
	} {
		if path, e := check.Shape(notation.Expr(s)); e != api.OK || len(path) > 0 {
			t.Errorf("%s: error %d at %v", s, e, path)
		}
	}
	for _, s := range []string{
		"lit.1", "lit.1{(U8 val | U8 val)}", "lit.1{$A}", "lit.1{this}", "lit.1{U8 val; U8 val}", "(lit.1{U8 val} this)", "local", "local." + long + "x", "local.x{U8 val}", "(local.x this)",
		"consume", "consume.x{U8 val}", "(consume.x this)", "this.x", "this{U8 val}", "(this this)", "error.x", "(error this)", "break.x", "break{U8 val}", "(break this)", "continue.x", "(continue this)", "error{U8 val}",
		"(get this)", "get.x", "(get.x this this)", "(get.x{U8 val} this)", "(get.x -)", "(set this this)", "(set.x this)", "(set.x this this this)", "(set.x - this)", "(set.x this -)", "(set.x{U8 val} this this)",
		"var{U8 val}", "var.x", "var.x{U8 val; U8 val}", "(var.x{U8 val} -)", "(var.x{U8 val} this this)", "let{U8 val}", "let.x", "(let.x{U8 val} -)", "(let.x{U8 val} this this)", "(assign this)", "assign.x", "(assign.x -)", "(assign.x this this)", "(assign.x{U8 val} this)",
		"seq.x", "seq{U8 val}", "(seq -)", "(seq this -)", "(if this this)", "(if this this this this)", "(if - this this)", "(if this - this)", "(if.x this this this)", "(if{U8 val} this this this)",
		"(while this this)", "(while this this this this)", "(while - this this)", "(while this - -)", "(while.x this this -)", "(while{U8 val} this this -)", "match", "(match this)", "(match - (case{U8 val} - this))", "(match this this)", "(match this -)", "(match this (case{U8 val} - this) this)",
		"(match.x this (case{U8 val} - this))", "(match{U8 val} this (case{U8 val} - this))", "(case{U8 val} - this)", "case", "(try this -)", "(try this - - -)", "(try - this this)", "(try.x this - -)", "(try{U8 val} this - -)", "(return -)", "(return this this)", "return.x", "return{U8 val}",
		"call.x", "(call this)", "(call.x -)", "(call.x this -)", "(call.x{U8 val} this)", "new{U8 val}", "new.x", "new.x{U8 val; U8 val}", "new.x{$A}", "(new.x{U8 val} -)", "recover{this}", "(recover this)", "(recover{U8 val} this)", "(recover{this; this} this)", "(recover{this} -)", "(recover{this} this this)", "(recover.x{this} this)",
		"tuple", "(tuple this)", "(tuple this -)", "(tuple " + strings.Repeat("this ", 65) + ")", "(tuple.x this this)", "(tuple{U8 val} this this)", "(item this)", "(item.64 this)", "(item.00 this)", "(item.01 this)", "(item.x this)", `(item."-1" this)`, `(item."+1" this)`, `(item."1 " this)`, "item.0", "(item.0 -)", "(item.0 this this)", "(item.0{U8 val} this)",
		"(is this)", "(is this this this)", "(is - this)", "(is this -)", "(is.x this this)", "(is{U8 val} this this)", "unit", "unit{$A}", "unit{None val; None val}", "unit.x{None val}", "(unit{None val} this)",
		"(if (case{U8 val} - this) this -)", "(if this (case{U8 val} - this) -)", "(match (case{U8 val} - this) (case{U8 val} - this))", "(seq this (case{U8 val} - this))", "(try this (case{U8 val} - this) -)", "(return (case{U8 val} - this))",
	} {
		x := notation.Expr(s)
		if path, e := check.Shape(x); e != api.ErrForm || len(path) > 0 {
			t.Errorf("%s: error %d at %v", s, e, path)
		}
		if x.Op == api.OpCase {
			continue
		}
		if _, e := check.Rule(notation.Program(cell), check.Context{Entity: 1}, x, make([]api.Type, len(x.Kids))); e != api.ErrForm {
			t.Errorf("Rule of %s: error %d", s, e)
		}
	}
}

// TestShapeCases is P13.1 for cases, which are wrong at themselves, not at their matches.
func TestShapeCases(t *testing.T) {
	long := strings.Repeat("x", 61)
	for _, s := range []string{"case", "(case{U8 val} this)", "(case{U8 val} - -)", "(case{U8 val} - this this)", "(case{U8 val} (case{U8 val} - this) this)", "(case{U8 val} this (case{U8 val} - this))", "(case - this)", "(case{U8 val; U8 val} - this)", "(case." + long + "{U8 val} - this)"} {
		x := notation.Expr("(match this (case{U8 val} - this) " + s + ")")
		if at, e := check.Shape(x); e != api.ErrForm || !slices.Equal(at, path(2)) {
			t.Errorf("%s: error %d at %v", s, e, at)
		}
	}
}

// TestShapeFirst is P13.1 for the first node of several that are wrong, and for what is none.
func TestShapeFirst(t *testing.T) {
	bad := api.Expr{Op: 99}
	for _, x := range []struct {
		x    api.Expr
		want []int
	}{
		{api.Expr{Op: 27}, nil}, {api.Expr{Op: -1}, nil},
		{api.Expr{Op: api.OpSeq, Kids: []api.Expr{{Op: api.OpThis}, bad}}, path(1)},
		{api.Expr{Op: api.OpSeq, Text: "x", Kids: []api.Expr{{Op: api.OpThis}, bad}}, nil},
		{api.Expr{Op: api.OpSeq, Kids: []api.Expr{{Op: api.OpSeq, Kids: []api.Expr{{Op: api.OpThis}, bad}}, bad}}, path(0, 1)},
		{api.Expr{Op: api.OpSeq, Kids: []api.Expr{{Op: api.OpSeq, Kids: []api.Expr{{}, bad}}, bad}}, path(0)},
		{api.Expr{Op: api.OpVar, Text: "x", Types: []api.Type{{Kind: api.TypeName, Name: "A"}}}, nil},
		{api.Expr{Op: api.OpVar, Text: "x", Types: []api.Type{{}}}, nil},
		{api.Expr{Op: api.OpRecover, Types: []api.Type{{Kind: api.TypeSelf, Cap: api.CapSend}}, Kids: []api.Expr{{Op: api.OpThis}}}, nil},
		{api.Expr{Op: api.OpMatch, Kids: []api.Expr{{Op: api.OpThis}, {Op: api.OpCase, Types: make([]api.Type, 1), Kids: []api.Expr{{}, {Op: api.OpThis}}}}}, path(1)},
	} {
		if at, e := check.Shape(x.x); e != api.ErrForm || !slices.Equal(at, x.want) {
			t.Errorf("%v: error %d at %v", x.x, e, at)
		}
	}
	none := api.Expr{Text: "x", Types: make([]api.Type, 3), Kids: slices.Repeat([]api.Expr{bad}, 5000)}
	if at, e := check.Shape(none); e != api.OK || len(at) > 0 {
		t.Errorf("none with Kids: error %d at %v", e, at)
	}
	x := notation.Expr("(if this this -)")
	x.Kids[2] = none
	if at, e := check.Shape(x); e != api.OK || len(at) > 0 {
		t.Errorf("a Kid that is none, with Kids: error %d at %v", e, at)
	}
}

// nested returns an expression of a depth.
func nested(depth int, inner api.Expr) api.Expr {
	for range depth - 1 {
		inner = api.Expr{Op: api.OpSeq, Kids: []api.Expr{inner}}
	}
	return inner
}

// TestShapeSizes is P13.1 for sizes on both sides of the limits.
func TestShapeSizes(t *testing.T) {
	this := api.Expr{Op: api.OpThis}
	for _, x := range []struct {
		x    api.Expr
		want api.Errno
	}{
		{nested(100, this), api.OK}, {nested(101, this), api.ErrSize}, {nested(100, api.Expr{Op: 99}), api.ErrForm}, {nested(101, api.Expr{Op: 99}), api.ErrSize}, {nested(5000, this), api.ErrSize},
		{api.Expr{Op: api.OpSeq, Kids: slices.Repeat([]api.Expr{this}, 3999)}, api.OK}, {api.Expr{Op: api.OpSeq, Kids: slices.Repeat([]api.Expr{this}, 4000)}, api.ErrSize},
		{api.Expr{Op: api.OpSeq, Kids: slices.Repeat([]api.Expr{{Op: 99}}, 4000)}, api.ErrSize},
		{api.Expr{Op: api.OpSeq, Kids: slices.Repeat([]api.Expr{notation.Expr("(try this - -)")}, 999)}, api.OK},
		{api.Expr{Op: api.OpSeq, Kids: slices.Repeat([]api.Expr{notation.Expr("(try this - -)")}, 1000)}, api.ErrSize},
		{nested(99, notation.Expr("(if this this this)")), api.OK}, {nested(100, notation.Expr("(if this this -)")), api.ErrSize},
	} {
		at, e := check.Shape(x.x)
		if e != x.want || e == api.ErrSize && len(at) > 0 {
			t.Errorf("error %d, want %d", e, x.want)
		}
	}
}
