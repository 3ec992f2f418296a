package meaning_test

import (
	"strings"
	"testing"

	"hackamore/api"
	"hackamore/meaning"
	"hackamore/notation"
	"hackamore/world"
)

// evaluated is what Eval is to return of an expression, and which locals are others behind it.
type evaluated struct{ x, want, locals string }

// checkEval evaluates expressions in the made world, for the actor 1, with the object 2 as the receiver.
func checkEval(t *testing.T, l []evaluated) {
	t.Helper()
	for _, c := range l {
		w := made(t)
		o := meaning.Eval(w, 1, object(2), notation.Expr(c.x), locals(), 1000)
		if got := brief(o); got != c.want {
			t.Errorf("%s is %s, not %s", c.x, got, c.want)
		}
		if got := changed(o.Locals); got != c.locals {
			t.Errorf("%s leaves %s, not %s", c.x, got, c.locals)
		}
		if e := world.Check(w.State()); e != api.OK {
			t.Errorf("%s: the state has the error %d", c.x, e)
		}
	}
}

// TestExamples are the chapter's.
func TestExamples(t *testing.T) {
	checkEval(t, []evaluated{
		{"(try error lit.1{U32 val} (return lit.2{U32 val}))", "return 2, 5", ""},
		{"(while lit.false{Bool val} lit.1{U32 val} lit.3{U32 val})", "value 3, 3", ""},
		{"(assign.x lit.6{U32 val})", "value 5, 2", "x=6"},
	})
	o := meaning.Eval(made(t), 1, object(2), notation.Expr("lit.1{U32 val}"), nil, 0)
	if brief(o) != "empty 10, 0" {
		t.Errorf("without fuel it is %s", brief(o))
	}
}

// TestValues is P18.1 for operations that have no more than the values of their Kids.
func TestValues(t *testing.T) {
	long, zeros := strings.Repeat("1", 401), strings.Repeat("0", 100)
	checkEval(t, []evaluated{
		{"lit.abc{String val}", "value #5, 1", ""},
		{"lit.true{Bool val}", "value true, 1", ""}, {"lit.false{Bool ref}", "value false, 1", ""}, {"lit.True{Bool val}", "wrong 2, 1", ""}, {`lit.""{Bool val}`, "wrong 2, 1", ""},
		{"lit.7{U32 val}", "value 7, 1", ""}, {"lit.x{U32 val}", "wrong 2, 1", ""}, {"lit.4294967296{U32 val}", "wrong 3, 1", ""}, {"lit.7{main.C ref}", "wrong 5, 1", ""}, {"lit." + long + "{U32 val}", "wrong 16, 1", ""},
		{"local.x", "value 5, 1", ""}, {"local.z", "wrong 12, 1", ""}, {"local.u", "wrong 192, 1", ""},
		{"this", "value #2, 1", ""},
		{"(get.n this)", "value 5, 2", ""}, {"(get.o this)", "wrong 192, 2", ""}, {"(get.z this)", "wrong 191, 2", ""}, {"(get.n local.x)", "wrong 191, 2", ""},
		{"(get.n local.a)", "wrong 13, 2", ""}, {"(get.n local.me)", "wrong 192, 2", ""}, {"(get.n error)", "error, 2", ""},
		{"(set.n this lit.6{U32 val})", "value 5, 3", ""}, {"(set.o this this)", "value None, 3", ""}, {"(set.z this this)", "wrong 191, 3", ""},
		{"(set.n local.a lit.1{U32 val})", "wrong 13, 3", ""}, {"(set.n local.a error)", "error, 3", ""}, {"(set.n local.me lit.1{U32 val})", "value None, 3", ""},
		{"(set.n error (assign.x lit.1{U32 val}))", "error, 2", ""}, {"(set.n this error)", "error, 3", ""},
		{"var.v{U32 val}", "value None, 1", "v=-"}, {"(var.v{U32 val} local.x)", "value None, 2", "v=5"}, {"(let.v{U32 val} local.x)", "value None, 2", "v=5"}, {"let.v{U32 val}", "value None, 1", "v=-"},
		{"var.x{U32 val}", "value None, 1", "x=-"}, {"(let.x{U32 val} lit.1{U32 val})", "value None, 2", "x=1"}, {"(var.v{U32 val} error)", "error, 2", ""},
		{"(assign.x lit.6{U32 val})", "value 5, 2", "x=6"}, {"(assign.u lit.6{U32 val})", "value None, 2", "u=6"}, {"(assign.v lit.6{U32 val})", "wrong 12, 2", ""},
		{"(assign.v var.v{U32 val})", "value None, 2", "v=None"}, {"(assign.x error)", "error, 2", ""}, {"(assign.z error)", "error, 2", ""},
		{"consume.x", "value 5, 1", "x=-"}, {"consume.z", "wrong 12, 1", ""}, {"consume.u", "wrong 192, 1", ""}, {"(seq consume.x consume.x)", "wrong 192, 3", "x=-"},
		{"seq", "value None, 1", ""}, {"(seq lit.1{U32 val})", "value 1, 2", ""}, {"(seq lit.1{U32 val} lit.2{U32 val} lit.3{U32 val})", "value 3, 4", ""}, {"(seq lit.1{U32 val} break lit.3{U32 val})", "break, 3", ""},
		{"error", "error, 1", ""}, {"break", "break, 1", ""}, {"continue", "continue, 1", ""}, {"return", "return None, 1", ""}, {"(return local.x)", "return 5, 2", ""}, {"(return error)", "error, 2", ""}, {"(return (return lit.1{U32 val}))", "return 1, 3", ""},
		{"(recover{this} local.c)", "value #2, 2", ""}, {"(recover{this} (return local.c))", "return #2, 3", ""},
		{"(tuple local.x local.c)", "value (5, #2), 3", ""}, {"(tuple local.x local.c local.x)", "value (5, #2, 5), 4", ""}, {"(tuple local.x error local.z)", "error, 3", ""},
		{"(item.0 local.p)", "value 1, 2", ""}, {"(item.1 local.p)", "value true, 2", ""}, {"(item.2 local.p)", "wrong 3, 2", ""}, {"(item.01 local.p)", "value true, 2", ""}, {"(item.00 local.p)", "value 1, 2", ""}, {"(item." + zeros + "1 local.p)", "value true, 2", ""}, {"(item." + zeros + "2 local.p)", "wrong 3, 2", ""},
		{`(item."+1" local.p)`, "wrong 3, 2", ""}, {`(item."-0" local.p)`, "wrong 3, 2", ""}, {`(item."1_0" local.p)`, "wrong 3, 2", ""}, {`(item."0_1" local.p)`, "wrong 3, 2", ""}, {`(item."0x1" local.p)`, "wrong 3, 2", ""}, {`(item." 1" local.p)`, "wrong 3, 2", ""}, {`(item."1 " local.p)`, "wrong 3, 2", ""}, {"(item.18446744073709551617 local.p)", "wrong 3, 2", ""},
		{`(item."" local.p)`, "wrong 3, 2", ""}, {`(item."-1" local.p)`, "wrong 3, 2", ""}, {"(item.99999999999999999999 local.p)", "wrong 3, 2", ""}, {"(item.0 local.x)", "wrong 11, 2", ""}, {"(item.x local.x)", "wrong 11, 2", ""}, {"(item.0 error)", "error, 2", ""},
		{"(is local.x lit.5{U32 val})", "value true, 3", ""}, {"(is local.x lit.6{U32 val})", "value false, 3", ""}, {"(is this local.c)", "value true, 3", ""}, {"(is lit.a{String val} lit.a{String val})", "value false, 3", ""}, {"(is local.p local.p)", "value true, 3", ""}, {"(is error local.z)", "error, 2", ""},
		{"unit{main.P val}", "value main.P, 1", ""}, {"unit{main.X ref}", "value main.X, 1", ""},
	})
}

// TestBranches is P18.1 for OpIf, OpWhile, OpMatch and OpTry.
func TestBranches(t *testing.T) {
	checkEval(t, []evaluated{
		{"(if lit.true{Bool val} lit.1{U32 val} lit.2{U32 val})", "value 1, 3", ""}, {"(if lit.false{Bool val} lit.1{U32 val} lit.2{U32 val})", "value 2, 3", ""}, {"(if lit.false{Bool val} lit.1{U32 val} -)", "value None, 2", ""},
		{"(if lit.true{Bool val} - lit.1{U32 val})", "wrong 2, 3", ""}, {"(if local.x lit.1{U32 val} lit.2{U32 val})", "wrong 11, 2", ""}, {"(if error lit.1{U32 val} lit.2{U32 val})", "error, 2", ""}, {"(if - lit.1{U32 val} lit.2{U32 val})", "wrong 2, 2", ""},
		{"(if (return lit.true{Bool val}) lit.1{U32 val} lit.2{U32 val})", "return true, 3", ""}, {"(if lit.true{Bool val} break continue)", "break, 3", ""},

		{"(while (call.lt local.x lit.8{U32 val}) (assign.x (call.add local.x lit.1{U32 val})) lit.0{U32 val})", "value 7, 25", "x=8"},
		{"(while lit.false{Bool val} lit.1{U32 val} -)", "value None, 2", ""}, {"(while lit.false{Bool val} lit.1{U32 val} break)", "break, 3", ""}, {"(while lit.false{Bool val} lit.1{U32 val} continue)", "continue, 3", ""},
		{"(while lit.true{Bool val} (seq lit.1{U32 val} break) lit.2{U32 val})", "value None, 5", ""}, {"(while break lit.1{U32 val} lit.2{U32 val})", "value None, 2", ""},
		{"(while local.x lit.1{U32 val} lit.2{U32 val})", "wrong 11, 2", ""}, {"(while lit.true{Bool val} error lit.2{U32 val})", "error, 3", ""}, {"(while error lit.1{U32 val} lit.2{U32 val})", "error, 2", ""}, {"(while lit.true{Bool val} (return lit.4{U32 val}) lit.2{U32 val})", "return 4, 4", ""},
		{"(while (call.lt local.x lit.6{U32 val}) (seq (assign.x lit.6{U32 val}) continue) lit.2{U32 val})", "value None, 11", "x=6"},
		{"(while (call.lt local.x lit.7{U32 val}) (if (call.eq (assign.x (call.add local.x lit.1{U32 val})) lit.5{U32 val}) continue lit.4{U32 val}) -)", "value 4, 26", "x=7"},
		{"(while (call.lt local.x lit.7{U32 val}) (if (call.eq (assign.x (call.add local.x lit.1{U32 val})) lit.6{U32 val}) continue lit.4{U32 val}) -)", "value None, 26", "x=7"},
		{"(while (if (call.eq local.x lit.5{U32 val}) (seq (assign.x lit.6{U32 val}) continue) lit.false{Bool val}) lit.1{U32 val} lit.2{U32 val})", "value 2, 15", "x=6"},
		{"(while (if (call.eq (assign.x (call.add local.x lit.1{U32 val})) lit.5{U32 val}) lit.true{Bool val} (if (call.eq local.x lit.7{U32 val}) continue lit.false{Bool val})) lit.1{U32 val} lit.2{U32 val})", "value 1, 34", "x=8"},
		{"(while lit.true{Bool val} - -)", "wrong 2, 3", ""}, {"(while lit.true{Bool val} lit.1{U32 val} -)", "empty 10, 1000", ""},

		{"(match local.x (case{U32 val} - lit.1{U32 val}))", "value 1, 3", ""}, {"(match local.x (case{main.C ref} - lit.1{U32 val}))", "value None, 2", ""}, {"(match local.x)", "value None, 2", ""},
		{"(match local.x (case{main.C ref} - lit.1{U32 val}) (case{U32 val} - lit.2{U32 val}) (case{U32 val} - lit.3{U32 val}))", "value 2, 3", ""},
		{"(match local.c (case{main.S val} - lit.1{U32 val}))", "value 1, 3", ""}, {"(match local.c (case.v{(None val | main.T val)} - local.v))", "value #2, 3", "v=#2"},
		{"(match local.p (case.v{(U32 val, Bool val)} - (item.0 local.v)))", "value 1, 4", "v=(1, true)"}, {"(match local.p (case.v{(Bool val, U32 val)} - (item.0 local.v)))", "value None, 2", ""},
		{"(match local.x (case.v{U32 val} lit.false{Bool val} lit.1{U32 val}) (case{U32 val} lit.true{Bool val} local.v))", "value 5, 5", "v=5"},
		{"(match lit.3{U32 val} (case.x{U32 val} (call.eq local.x lit.3{U32 val}) local.x))", "value 3, 6", "x=3"},
		{"(match local.x (case{U32 val} local.x lit.1{U32 val}))", "wrong 11, 3", ""}, {"(match local.x (case{U32 val} error lit.1{U32 val}) (case{U32 val} - lit.2{U32 val}))", "error, 3", ""}, {"(match local.x (case{U32 val} - -))", "wrong 2, 3", ""},
		{"(match error (case{U32 val} - lit.1{U32 val}))", "error, 2", ""}, {"(match local.x (case{U32 val} - break))", "break, 3", ""},
		{"(match local.x (case - lit.1{U32 val}))", "wrong 2, 2", ""}, {"(match local.x (case{U32 val; U32 val} - lit.1{U32 val}))", "wrong 2, 2", ""}, {"(match local.x (case{U32 val} lit.1{U32 val}))", "wrong 2, 2", ""}, {"(match local.x (case{U32 val} - lit.1{U32 val} -))", "wrong 2, 2", ""}, {"(match local.x lit.1{U32 val})", "wrong 2, 2", ""},
		{"(match local.x (case{U32 val} - lit.1{U32 val}) lit.1{U32 val})", "value 1, 3", ""}, {"(match local.x (case{Bool val} - lit.1{U32 val}) lit.1{U32 val})", "wrong 2, 2", ""}, {"(case{U32 val} - lit.1{U32 val})", "wrong 2, 1", ""},

		{"(try lit.1{U32 val} lit.2{U32 val} lit.3{U32 val})", "value 1, 3", ""}, {"(try error lit.2{U32 val} lit.3{U32 val})", "value 2, 4", ""}, {"(try error - -)", "value None, 2", ""}, {"(try lit.1{U32 val} - -)", "value 1, 2", ""}, {"(try error lit.2{U32 val} -)", "value 2, 3", ""},
		{"(try error error (assign.x lit.1{U32 val}))", "error, 5", "x=1"}, {"(try break lit.2{U32 val} (assign.x lit.1{U32 val}))", "break, 4", "x=1"}, {"(try continue lit.2{U32 val} -)", "continue, 2", ""}, {"(try (return lit.1{U32 val}) lit.2{U32 val} (assign.x lit.1{U32 val}))", "return 1, 5", "x=1"},
		{"(try error break (assign.x lit.1{U32 val}))", "break, 5", "x=1"}, {"(try lit.1{U32 val} - break)", "break, 3", ""}, {"(try lit.1{U32 val} - error)", "error, 3", ""}, {"(try (return lit.1{U32 val}) - (return lit.2{U32 val}))", "return 2, 5", ""}, {"(try error error (return lit.2{U32 val}))", "return 2, 5", ""},
		{"(try local.z lit.2{U32 val} (assign.x lit.1{U32 val}))", "wrong 12, 2", ""}, {"(try error local.z (assign.x lit.1{U32 val}))", "wrong 12, 3", ""}, {"(try lit.1{U32 val} - local.z)", "wrong 12, 3", ""}, {"(try - lit.2{U32 val} (assign.x lit.1{U32 val}))", "wrong 2, 2", ""},
		{"(try (while lit.true{Bool val} seq -) lit.2{U32 val} (assign.x lit.1{U32 val}))", "empty 10, 1000", ""},
	})
}

// TestCalls is P18.1 for OpCall.
func TestCalls(t *testing.T) {
	checkEval(t, []evaluated{
		{"(call.get this)", "value 5, 4", ""}, {"(call.twice this local.x)", "value 10, 6", ""}, {"(call.get local.c)", "value 5, 4", ""}, {"(call.seven unit{main.P val})", "value 7, 3", ""},
		{"(call.put this lit.9{U32 val})", "value None, 6", ""}, {"(seq (call.put this lit.9{U32 val}) (get.n this))", "value 9, 9", ""},
		{"(call.fails this)", "error, 3", ""}, {"(call.lies this)", "wrong 14, 3", ""}, {"(call.back this local.x)", "value 5, 6", ""}, {"(call.nothing this)", "value None, 4", ""}, {"(call.nothings this)", "value None, 3", ""}, {"(call.anything this)", "value 1, 3", ""},
		{"(call.breaks this)", "wrong 2, 3", ""}, {"(call.goes this)", "wrong 2, 7", ""}, {"(call.continues this)", "wrong 2, 3", ""}, {"(call.own this local.x)", "value 5, 9", ""},
		{"(call.get this local.x)", "wrong 4, 3", ""}, {"(call.twice this)", "wrong 4, 2", ""}, {"(call.bare this)", "wrong 191, 2", ""}, {"(call.create this)", "wrong 191, 2", ""}, {"(call.plain this)", "wrong 191, 2", ""}, {"(call.zzz this)", "wrong 191, 2", ""},
		{"(call.string unit{None val})", "value #5, 2", ""}, {"(call.string unit{main.X val})", "wrong 190, 2", ""}, {"(call.string local.x)", "value #5, 2", ""}, {"(call.string local.p)", "wrong 11, 2", ""}, {"(call.size local.l)", "value 2, 2", ""},
		{"(call.apply local.l lit.1{USize val})", "value 2, 3", ""}, {"(call.apply local.l lit.2{USize val})", "error, 3", ""}, {"(call.apply local.l lit.1{U32 val})", "wrong 11, 3", ""}, {"(call.apply local.l)", "wrong 4, 2", ""}, {"(call.push local.l local.x)", "value None, 3", ""},
		{"(call.add local.x lit.2{U32 val})", "value 7, 3", ""}, {"(call.zzz local.x)", "wrong 5, 2", ""}, {"(call.sub_partial local.x lit.6{U32 val})", "error, 3", ""}, {"(try (call.sub_partial local.x lit.6{U32 val}) local.x -)", "value 5, 5", ""},
		{"(call.late local.c local.x)", "wrong 11, 3", ""}, {"(call.late local.c)", "wrong 11, 2", ""}, {"(call.once local.a local.x)", "value None, 3", ""}, {"(call.once local.a)", "wrong 4, 2", ""}, {"(call.bare local.a)", "value None, 2", ""}, {"(call.far local.a local.x)", "value None, 3", ""}, {"(call.open local.a)", "value None, 2", ""},
		{"(call.create local.a local.x)", "wrong 191, 3", ""}, {"(call.read local.a)", "wrong 13, 4", ""}, {"(call.read local.me local.a)", "wrong 13, 5", ""},
		{"(call.get error)", "error, 2", ""}, {"(call.twice this error)", "error, 3", ""}, {"(call.get break)", "break, 2", ""}, {"(call.twice local.z error)", "wrong 12, 2", ""},
	})
}

// TestNew is P18.1 for OpNew.
func TestNew(t *testing.T) {
	checkEval(t, []evaluated{
		{"(new.create{main.C ref} local.x)", "value #5, 9", ""}, {"(get.n (new.create{main.C ref} local.x))", "value 5, 10", ""}, {"(new.plain{main.C val})", "value #5, 2", ""}, {"(new.failing{main.C ref})", "error, 6", ""}, {"(new.lying{main.C ref})", "wrong 14, 2", ""}, {"(new.leaving{main.C ref})", "wrong 2, 2", ""},
		{"(new.bare{main.C ref})", "wrong 2, 2", ""}, {"(new.get{main.C ref})", "wrong 191, 1", ""}, {"(new.zzz{main.C ref})", "wrong 191, 1", ""}, {"(new.create{main.C ref})", "wrong 4, 1", ""}, {"(new.plain{main.C ref} local.x)", "wrong 4, 2", ""}, {"(new.far{main.C ref})", "value #5, 2", ""},
		{"(new.create{main.A tag} local.x)", "value @3, 2", ""}, {"(new.create{main.A tag})", "wrong 4, 1", ""}, {"(new.go{main.A tag} local.x)", "wrong 191, 2", ""}, {"(new.zzz{main.A tag})", "wrong 191, 1", ""}, {"(new.create{main.A tag} error)", "error, 2", ""},
		{"(new.create{main.P val})", "value main.P, 1", ""}, {"(new.zzz{main.P val} local.x)", "value main.P, 2", ""}, {"(new.create{main.S ref})", "wrong 191, 1", ""}, {"(new.create{main.X ref})", "wrong 191, 1", ""},
		{`(new.create{"Array[U32 val]" ref})`, "value #5, 1", ""}, {`(new.create{"Array[x" ref})`, "wrong 191, 1", ""}, {`(new.create{"Array[x]" ref} local.x)`, "wrong 191, 2", ""}, {`(new.make{"Array[x]" ref})`, "wrong 191, 1", ""},
		{"(new.create{U32 val} local.x)", "value 5, 2", ""}, {"(new.create{U8 val} local.x)", "wrong 11, 2", ""}, {"(new.create{U32 val} local.p)", "wrong 11, 2", ""}, {"(new.create{U32 val})", "value U32, 1", ""}, {"(new.zzz{U32 val} local.x)", "value U32, 2", ""}, {"(new.create{U32 val} local.x local.x)", "value U32, 3", ""},
		{"(new.create{F64 val})", "wrong 191, 1", ""}, {"(new.create{Bool val} lit.true{Bool val})", "value Bool, 2", ""},
	})
}

// TestShapes is P18.1 for what has not as many Kids, or Types, as is said: ErrForm, behind the fuel, ahead of all else.
func TestShapes(t *testing.T) {
	least := map[int][3]int{ // how many Types, and how many Kids at least and at most
		api.OpLit: {1, 0, 0}, api.OpLocal: {0, 0, 0}, api.OpThis: {0, 0, 0}, api.OpGet: {0, 1, 1}, api.OpSet: {0, 2, 2}, api.OpVar: {1, 0, 1}, api.OpLet: {1, 0, 1}, api.OpAssign: {0, 1, 1}, api.OpConsume: {0, 0, 0},
		api.OpSeq: {0, 0, 9}, api.OpIf: {0, 3, 3}, api.OpWhile: {0, 3, 3}, api.OpMatch: {0, 1, 9}, api.OpTry: {0, 3, 3}, api.OpError: {0, 0, 0}, api.OpReturn: {0, 0, 1}, api.OpBreak: {0, 0, 0}, api.OpContinue: {0, 0, 0},
		api.OpCall: {0, 1, 9}, api.OpNew: {1, 0, 9}, api.OpRecover: {1, 1, 1}, api.OpTuple: {0, 2, 9}, api.OpItem: {0, 1, 1}, api.OpIs: {0, 2, 2}, api.OpUnit: {1, 0, 0},
	}
	form := meaning.Outcome{Kind: meaning.Wrong, Code: api.ErrForm, Used: 1}
	for op := -2; op < 32; op++ {
		n, known := least[op]
		for types := range 3 {
			for kids := range 6 {
				x := api.Expr{Op: op, Text: "0", Types: make([]api.Type, types)}
				for range kids {
					x.Kids = append(x.Kids, api.Expr{Op: api.OpError})
				}
				o := meaning.Eval(made(t), 1, object(2), x, nil, 10)
				right := known && types == n[0] && n[1] <= kids && kids <= n[2]
				if is := told(o) == told(form); is == right {
					t.Errorf("the operation %d with %d types and %d kids is %s", op, types, kids, brief(o))
				}
			}
		}
	}
	for _, x := range []api.Expr{{}, {Op: 0, Text: "x", Kids: []api.Expr{{Op: api.OpError}}}, {Op: api.OpLast + 1}} {
		if o := meaning.Eval(made(t), 1, object(2), x, nil, 10); told(o) != told(form) {
			t.Errorf("%s is %s", told(x), brief(o))
		}
		if o := meaning.Eval(made(t), 1, object(2), x, nil, 0); brief(o) != "empty 10, 0" {
			t.Errorf("%s without fuel is %s", told(x), brief(o))
		}
	}
}
