package optimize_test

import (
	"strconv"
	"testing"

	"hackamore/api"
	"hackamore/edit"
	"hackamore/optimize"
	"hackamore/ssa"
	"hackamore/witness"
)

// number returns a number of U8.
func number(n uint64) api.Value { return api.Value{Kind: api.ValNumber + 6, Lo: n} }

// function returns a function whose blocks have instructions, numbered in order behind the parameters.
func function(name string, params int, l ...ssa.Block) ssa.Func {
	f := ssa.Func{Name: name, Params: make([]api.Type, params), Blocks: l}
	next := params
	for i := range edit.Instructions(f) {
		i.Result = next
		next++
	}
	return f
}

func ins(op int, text string, args ...int) ssa.Ins { return ssa.Ins{Op: op, Text: text, Args: args} }

func lit(v api.Value) ssa.Ins { return ssa.Ins{Op: ssa.Const, Lit: v} }

func back(v int, l ...ssa.Ins) ssa.Block {
	return ssa.Block{Ins: l, End: ssa.End{Kind: ssa.Return, Args: []int{v}}}
}

func jump(to int, l ...ssa.Ins) ssa.Block {
	return ssa.Block{Ins: l, End: ssa.End{Kind: ssa.Jump, To: []int{to}}}
}

func branch(v, yes, no int, l ...ssa.Ins) ssa.Block {
	return ssa.Block{Ins: l, End: ssa.End{Kind: ssa.Branch, Args: []int{v}, To: []int{yes, no}}}
}

// behind returns a program behind passes, whose witness is taken, and the kinds of its steps.
func behind(t *testing.T, p ssa.Program, passes ...int) (ssa.Program, []int) {
	t.Helper()
	before := told(p)
	q, l, e := optimize.Run(p, passes)
	if e != api.OK {
		t.Fatalf("Run: error %d", e)
	}
	if at, e := witness.Check(p, q, l); e != api.OK {
		t.Fatalf("the witness has the error %d at %d", e, at)
	}
	if told(p) != before {
		t.Fatalf("what was handed in has changed")
	}
	var kinds []int
	for _, s := range l {
		kinds = append(kinds, s.Kind)
	}
	return q, kinds
}

// TestErrors is P21.1 for the errors of Run, and for Usual and Size.
func TestErrors(t *testing.T) {
	right := ssa.Program{Funcs: []ssa.Func{function("f", 1, back(0))}}
	wrong := ssa.Program{Funcs: []ssa.Func{function("f", 1, back(7))}}
	many := make([]int, 21)
	all := make([]int, 20)
	for i := range all {
		all[i] = 1 + i%optimize.Passes
	}
	for name, c := range map[string]struct {
		p      ssa.Program
		passes []int
		e      api.Errno
	}{
		"nothing":       {ssa.Program{}, nil, api.OK},
		"20 passes":     {right, all, api.OK},
		"21 passes":     {wrong, many, api.ErrSize},
		"the pass 0":    {wrong, []int{1, 0}, api.ErrArg},
		"the pass 9":    {wrong, []int{9}, api.ErrArg},
		"the pass -1":   {right, []int{-1}, api.ErrArg},
		"a wrong one":   {wrong, []int{1}, ssa.ErrUse},
		"no passes":     {right, nil, api.OK},
		"a wrong, none": {wrong, nil, ssa.ErrUse},
	} {
		q, l, e := optimize.Run(c.p, c.passes)
		if e != c.e || e != api.OK && (told(q) != told(ssa.Program{}) || l != nil) || e == api.OK && told(q) != told(c.p) {
			t.Errorf("%s: error %d, want %d", name, e, c.e)
		}
	}
	usual := map[int]string{-3: "[]", 0: "[]", 1: "[1 2 4]", 2: "[6 5 1 2 3 4]", 3: "[6 5 1 2 6 5 1 8 2 3 7 4]", 9: "[6 5 1 2 6 5 1 8 2 3 7 4]"}
	for level, want := range usual {
		if got := told(optimize.Usual(level)); got != want {
			t.Errorf("Usual(%d) is %s, want %s", level, got, want)
		}
	}
	tried := function("g", 1, ssa.Block{Ins: []ssa.Ins{lit(number(1))}, End: ssa.End{Kind: ssa.Try, To: []int{1, 2}, Call: ins(ssa.Call, "m", 0)}}, back(2), back(1, lit(number(2))))
	if n := optimize.Size(ssa.Program{Funcs: []ssa.Func{tried, tried}}); n != 6 {
		t.Errorf("the size is %d", n)
	}
}

// TestExample is the chapter's: two additions of constants, and a branch by a constant.
func TestExample(t *testing.T) {
	p := ssa.Program{Funcs: []ssa.Func{function("f", 0, back(4,
		lit(number(1)), lit(number(2)), ins(ssa.Native, "U8.add", 0, 1), ins(ssa.Native, "U8.add", 0, 1), ins(ssa.Tuple, "", 2, 3)))}}
	q, kinds := behind(t, p, optimize.Fold)
	if told(kinds) != "[2 2]" || q.Funcs[0].Blocks[0].Ins[3].Lit.Lo != 3 {
		t.Errorf("Fold does %v", kinds)
	}
	q, kinds = behind(t, q, optimize.Common)
	if told(kinds) != "[3]" {
		t.Errorf("Common does %v", kinds)
	}
	q, kinds = behind(t, q, optimize.Dead)
	if told(kinds) != "[4 4]" || optimize.Size(q) != 2 {
		t.Errorf("Dead does %v", kinds)
	}
	p = ssa.Program{Funcs: []ssa.Func{function("f", 1, branch(1, 1, 2, lit(edit.Truth(true))), jump(2), back(2, ins(ssa.Phi, "", 0, 1)))}}
	q, kinds = behind(t, p, optimize.Fold)
	if told(kinds) != "[5]" || len(q.Funcs[0].Blocks) != 3 {
		t.Errorf("Fold does %v", kinds)
	}
	q, kinds = behind(t, q, optimize.Dead)
	if told(kinds) != "[6 6]" || len(q.Funcs[0].Blocks) != 1 {
		t.Errorf("Dead does %v", kinds)
	}
}

// body returns a function with one parameter and as many instructions as are wanted.
func body(name string, n int, more ...ssa.Ins) ssa.Func {
	l := more
	for len(l) < n {
		l = append(l, ins(ssa.Is, "", 0, 0))
	}
	return function(name, 1, back(0, l...))
}

// TestInline is P21.1 for what Inline does and leaves.
func TestInline(t *testing.T) {
	direct := func(name string) ssa.Ins { return ins(ssa.Direct, name, 0) }
	many := func(n int, name string) []ssa.Ins {
		var l []ssa.Ins
		for range n {
			l = append(l, direct(name))
		}
		return l
	}
	for name, c := range map[string]struct {
		l    []ssa.Func
		left int // calls of the last one in the first one
	}{
		"a function of 10":            {[]ssa.Func{body("f", 1, direct("g")), body("g", 10)}, 0},
		"a function of 41":            {[]ssa.Func{body("f", 1, direct("g")), body("g", 41)}, 1},
		"a function of 1000":          {[]ssa.Func{body("f", 990, direct("g")), body("g", 10)}, 0},
		"a function of 1001":          {[]ssa.Func{body("f", 991, direct("g")), body("g", 10)}, 1},
		"one with a direct":           {[]ssa.Func{body("f", 1, direct("g")), body("h", 50), body("g", 5, direct("h"))}, 1},
		"one that had a direct":       {[]ssa.Func{body("f", 1, direct("g")), body("h", 2), body("g", 5, direct("h"))}, 0},
		"one that calls itself":       {[]ssa.Func{body("f", 1, direct("f"))}, 1},
		"two that call each other":    {[]ssa.Func{body("f", 1, direct("g")), body("g", 1, direct("f"))}, 1},
		"100 calls, as many as go":    {[]ssa.Func{body("f", 100, many(100, "g")...), body("g", 9)}, 0},
		"101 calls, two that are too": {[]ssa.Func{body("f", 101, many(101, "g")...), body("g", 9)}, 2},
		"200 calls, 3 blocks each":    {[]ssa.Func{body("f", 250, many(250, "g")...), body("g", 1)}, 51},
	} {
		q, _ := behind(t, ssa.Program{Funcs: c.l}, optimize.Inline)
		left := 0
		for i := range edit.Instructions(q.Funcs[0]) {
			if i.Op == ssa.Direct && i.Text == c.l[len(c.l)-1].Name {
				left++
			}
		}
		if left != c.left || edit.Size(q.Funcs[0]) > 1000 {
			t.Errorf("%s: %d calls are left, in a function of %d", name, left, edit.Size(q.Funcs[0]))
		}
	}
}

// TestManySteps holds that a witness has no more steps than layer 22 takes, and that nothing is half done where there would be more.
func TestManySteps(t *testing.T) {
	var p ssa.Program
	for i := range 6 {
		p.Funcs = append(p.Funcs, body("f"+strconv.Itoa(i), 3990, lit(number(1))))
	}
	q, kinds := behind(t, p, optimize.Dead)
	if len(kinds) != 20000 || optimize.Size(q) != 6*3990-20000 {
		t.Errorf("%d steps, the size is %d", len(kinds), optimize.Size(q))
	}
	q, kinds = behind(t, q, optimize.Copies)
	if optimize.Size(q) != 0 || len(kinds) != 6*3990-20000 {
		t.Errorf("behind the rest the size is %d", optimize.Size(q))
	}
	var l []ssa.Ins
	l = append(l, ins(ssa.Tuple, "", 0, 0))
	for range 3000 {
		l = append(l, ssa.Ins{Op: ssa.Item, Args: []int{1}})
	}
	for i := range 6 {
		p.Funcs[i] = function("f"+strconv.Itoa(i), 1, back(3000, l...))
	}
	if _, kinds = behind(t, p, optimize.Copies); len(kinds) != 20000 {
		t.Errorf("%d steps", len(kinds))
	}
}

// TestPasses is P21.1 for passes whose steps the drawn programs seldom have.
func TestPasses(t *testing.T) {
	of := func(name string) api.Type { return api.Type{Kind: api.TypeName, Name: name, Cap: api.Ref} }
	object := ins(ssa.Make, "C")
	object.Type = of("C")
	p := ssa.Program{
		Entities: []api.Entity{{Kind: api.Class, Name: "C", Cap: api.Ref}},
		Funcs: []ssa.Func{
			function("main", 1, back(5, object, ins(ssa.Set, "n", 1, 0), ins(ssa.Get, "n", 1), ins(ssa.Call, "get", 1), ins(ssa.Get, "n", 1))),
			function("C.get", 1, back(1, ins(ssa.Get, "n", 0))),
		},
	}
	q, kinds := behind(t, p, optimize.Devirt, optimize.Inline, optimize.Copies, optimize.Dead, optimize.Forward, optimize.Escape)
	if n := len(q.Funcs[0].Blocks); n != 1 || optimize.Size(q) != 3 || q.Funcs[0].Blocks[0].End.Args[0] != 0 || !q.Funcs[0].Blocks[0].Ins[0].Flag {
		t.Errorf("behind %v there are %d blocks, and the size is %d", kinds, n, optimize.Size(q))
	}
	// A value that is used ahead of an equal one takes its place, though it comes later in the order of blocks.
	p = ssa.Program{Funcs: []ssa.Func{function("f", 1,
		branch(0, 2, 1),
		back(2, ins(ssa.Is, "", 0, 0), ins(ssa.Tuple, "", 1, 1)),
		jump(1))}}
	if _, kinds = behind(t, p, optimize.Common); len(kinds) != 0 {
		t.Errorf("Common does %v", kinds)
	}
	p = ssa.Program{Funcs: []ssa.Func{function("f", 1,
		branch(0, 1, 2),
		back(1, ins(ssa.Is, "", 0, 0)),
		back(2, ins(ssa.Is, "", 0, 0)))}}
	if _, kinds = behind(t, p, optimize.Common); len(kinds) != 0 {
		t.Errorf("Common of two ways does %v", kinds)
	}
	p = ssa.Program{Funcs: []ssa.Func{function("f", 1,
		branch(0, 1, 2),
		back(0, ins(ssa.Is, "", 0, 0)),
		back(2, ins(ssa.Is, "", 0, 0)))}}
	if _, kinds = behind(t, p, optimize.Common); told(kinds) != "[3]" {
		t.Errorf("Common of two ways, one of them unused, does %v", kinds)
	}
}
