package ssa_test

import (
	"strings"
	"testing"

	"hackamore/api"
	"hackamore/ssa"
)

const sample = "func xmain.C.m~20~e2~82~ac 1:xU8:4:0 1 1:xmain.C:3:2(1:xU8:4:0,5:x:0:0(0:x:0:0,0:x:0:0)) 0:x:0:0\n" +
	"block\n" +
	"const 2 0:x:0:0 - x x 5:0:0:x(16:7:0:x,10:255:18446744073709551615:x~0a_) 0 0\n" +
	"text 3 0:x:0:0 - xa~7eb x 0:0:0:x 0 0\n" +
	"make 4 0:x:0:0 - xmain.C x 0:0:0:x 0 1\n" +
	"item 5 0:x:0:0 2 x x 0:0:0:x 63 0\n" +
	"spawn 6 0:x:0:0 0,5 xcreate xmain.A 0:0:0:x 0 0\n" +
	"try - 1,2 call 7 0:x:0:0 2,3 xm x 0:0:0:x 0 0\n" +
	"block\n" +
	"branch 7 2,3\n" +
	"block\n" +
	"return 2 -\n" +
	"block\n" +
	"error - -\n" +
	"func x 0:x:0:0 0\n" +
	"block\n" +
	"stuck - -\n"

// written are the functions of the sample.
func written() []ssa.Func {
	u8 := api.Type{Kind: api.TypeName, Name: "U8", Cap: api.Val}
	pair := api.Type{Kind: api.TypeTuple, Args: make([]api.Type, 2)}
	first := ssa.Func{
		Name: "main.C.m €", Result: u8, Partial: true,
		Params: []api.Type{{Kind: api.TypeName, Name: "main.C", Cap: api.Ref, Mark: api.Aliased, Args: []api.Type{u8, pair}}, {}},
		Blocks: []ssa.Block{
			trying(1, 2, call(7, 2, 3),
				ssa.Ins{Op: ssa.Const, Result: 2, Lit: api.Value{Kind: api.ValTuple, Kids: []api.Value{number(7), {Kind: 10, Lo: 255, Hi: 1<<64 - 1, Name: "\n_"}}}},
				ssa.Ins{Op: ssa.Text, Result: 3, Text: "a~b"},
				ssa.Ins{Op: ssa.Make, Result: 4, Text: "main.C", Flag: true},
				ssa.Ins{Op: ssa.Item, Result: 5, Args: []int{2}, N: 63},
				ssa.Ins{Op: ssa.Spawn, Result: 6, Args: []int{0, 5}, Text: "create", Name: "main.A"},
			),
			block("b23 7"), block("r 2"), block("e"),
		},
	}
	return []ssa.Func{first, {Blocks: []ssa.Block{block("s")}}}
}

// TestSample is P19.7 for one text.
func TestSample(t *testing.T) {
	s, e := ssa.Print(written())
	if e != api.OK || s != sample {
		t.Errorf("error %d:\n%s", e, s)
	}
	l, line, e := ssa.Parse(sample)
	if e != api.OK || line != 0 || told(l) != told(written()) {
		t.Errorf("error %d in the line %d: %v", e, line, l)
	}
	if s, e := ssa.Print(nil); s != "" || e != api.OK {
		t.Errorf("of nothing: error %d, %q", e, s)
	}
	if l, line, e := ssa.Parse(""); len(l) != 0 || line != 0 || e != api.OK {
		t.Errorf("no text: error %d in the line %d", e, line)
	}
}

// nested returns the word of a type, or a value, with a depth.
func nested(head string, n int) string {
	return strings.Repeat(head+"(", n-1) + head + strings.Repeat(")", n-1)
}

// TestLines is P19.1 for lines that have not the form, in a function with a block.
func TestLines(t *testing.T) {
	const zero = " 0:x:0:0 - x x 0:0:0:x 0 0"
	for line, e := range map[string]api.Errno{
		"const 1" + zero:                                                                   api.OK,
		"const 01" + zero:                                                                  ssa.ErrLine,
		"const +1" + zero:                                                                  ssa.ErrLine,
		"const -1" + zero:                                                                  ssa.ErrLine,
		"const 1000000000" + zero:                                                          api.ErrRange,
		"const 1000000001" + zero:                                                          ssa.ErrLine,
		"const 99999999999999999999" + zero:                                                ssa.ErrLine,
		"const 1" + zero + " 0":                                                            ssa.ErrLine,
		"const 1" + strings.TrimSuffix(zero, " 0"):                                         ssa.ErrLine,
		"const  1" + zero:                                                                  ssa.ErrLine,
		" const 1" + zero:                                                                  ssa.ErrLine,
		"const 1" + zero + " ":                                                             ssa.ErrLine,
		"const 1" + zero + "\r":                                                            ssa.ErrLine,
		"Const 1" + zero:                                                                   ssa.ErrLine,
		"const 1 0:x:0:0 - x x 0:0:0:x 0 2":                                                ssa.ErrLine,
		"const 1 0:x:0:0 - x x 0:0:0:x 0 01":                                               ssa.ErrLine,
		"const 1 0:x:0:0 - x x 0:0:0:x 1 0":                                                api.ErrForm,
		"const 1 0:x:0:0 - x~61 x 0:0:0:x 0 0":                                             ssa.ErrLine,
		"text 1 0:x:0:0 - x~0A x 0:0:0:x 0 0":                                              ssa.ErrLine,
		"text 1 0:x:0:0 - x~0a x 0:0:0:x 0 0":                                              api.OK,
		"text 1 0:x:0:0 - x~ff x 0:0:0:x 0 0":                                              api.ErrForm,
		"text 1 0:x:0:0 - x~f x 0:0:0:x 0 0":                                               ssa.ErrLine,
		"text 1 0:x:0:0 - x~g0 x 0:0:0:x 0 0":                                              ssa.ErrLine,
		"text 1 0:x:0:0 - a x 0:0:0:x 0 0":                                                 ssa.ErrLine,
		"text 1 0:x:0:0 -  x 0:0:0:x 0 0":                                                  ssa.ErrLine,
		"tuple 1 0:x:0:0 0,0 x x 0:0:0:x 0 0":                                              api.OK,
		"tuple 1 0:x:0:0 0,0, x x 0:0:0:x 0 0":                                             ssa.ErrLine,
		"tuple 1 0:x:0:0 ,0 x x 0:0:0:x 0 0":                                               ssa.ErrLine,
		"tuple 1 0:x:0:0 0;0 x x 0:0:0:x 0 0":                                              ssa.ErrLine,
		"tuple 1 0:x:0:0 - x x 0:0:0:x 0 0":                                                api.ErrSize,
		"const 1 0:x:0 - x x 0:0:0:x 0 0":                                                  ssa.ErrLine,
		"const 1 0:x:0:0() - x x 0:0:0:x 0 0":                                              ssa.ErrLine,
		"const 1 0:x:0:0(0:x:0:0 - x x 0:0:0:x 0 0":                                        ssa.ErrLine,
		"const 1 0:x:0:0(0:x:0:0,) - x x 0:0:0:x 0 0":                                      ssa.ErrLine,
		"const 1 0:x:0:0(0:x:0:0)) - x x 0:0:0:x 0 0":                                      ssa.ErrLine,
		"const 1 99:x~ff:99:99 - x x 0:0:0:x 0 0":                                          api.ErrForm,
		"const 1 100:x:0:0 - x x 0:0:0:x 0 0":                                              api.ErrForm,
		"const 1 0:x:100:0 - x x 0:0:0:x 0 0":                                              api.ErrForm,
		"const 1 0:x:0:100 - x x 0:0:0:x 0 0":                                              api.ErrForm,
		"const 1 99:x:99:99 - x x 99:0:0:x~ff 0 0":                                         api.OK,
		"const 1 0:x:0:0 - x x 100:0:0:x 0 0":                                              api.ErrForm,
		"const 1 0:x:0:0 - x x 0:0:0:x(100:0:0:x) 0 0":                                     api.ErrForm,
		"const 1 0:x:0:0 - x x 0:18446744073709551615:0:x 0 0":                             api.OK,
		"const 1 0:x:0:0 - x x 0:18446744073709551616:0:x 0 0":                             ssa.ErrLine,
		"const 1 0:x:0:0 - x x 0:28446744073709551615:0:x 0 0":                             ssa.ErrLine,
		"const 1 0:x:0:0 - x x 0:00:0:x 0 0":                                               ssa.ErrLine,
		"const 1 " + nested("0:x:0:0", 20) + " - x x 0:0:0:x 0 0":                          api.OK,
		"const 1 " + nested("0:x:0:0", 21) + " - x x 0:0:0:x 0 0":                          ssa.ErrLine,
		"const 1 0:x:0:0 - x x " + nested("0:0:0:x", 8) + " 0 0":                           api.OK,
		"const 1 0:x:0:0 - x x " + nested("0:0:0:x", 20) + " 0 0":                          api.ErrForm,
		"const 1 0:x:0:0 - x x " + nested("0:0:0:x", 22) + " 0 0":                          ssa.ErrLine,
		"const 1 1:x:0:0(" + strings.Repeat("0:x:0:0,", 98) + "0:x:0:0) - x x 0:0:0:x 0 0": api.OK,
		"const 1 1:x:0:0(" + strings.Repeat("0:x:0:0,", 99) + "0:x:0:0) - x x 0:0:0:x 0 0": api.ErrForm,
		"const 1 1:x" + strings.Repeat("a", 200) + ":0:0 - x x 0:0:0:x 0 0":                api.OK,
		"const 1 1:x" + strings.Repeat("a", 201) + ":0:0 - x x 0:0:0:x 0 0":                api.ErrForm,
		"jump - 1":            ssa.ErrLine, // the end that follows has no block
		"func x 0:x:0:0 0":    ssa.ErrLine,
		"block":               ssa.ErrLine,
		"":                    ssa.ErrLine,
		"return 0":            ssa.ErrLine,
		"return 0 - 0":        ssa.ErrLine,
		"try - 1,2":           ssa.ErrLine,
		"try - 1,2 call 1 0:": ssa.ErrLine,
	} {
		l, at, got := ssa.Parse("func xf 0:x:0:0 0 0:x:0:0\nblock\n" + line + "\nreturn 0 -\n")
		if want := map[bool]int{true: 3}[e == ssa.ErrLine]; got != e || line != "jump - 1" && at != want || e != api.OK && l != nil {
			t.Errorf("%q: error %d in the line %d, want %d", line, got, at, e)
		}
	}
	for s, line := range map[string]int{
		"\n":                                  1,
		"block\n":                             1,
		"return 0 -\n":                        1,
		"func xf 0:x:0:0 0\n":                 2,
		"func xf 0:x:0:0 0\nblock\n":          3,
		"func xf 0:x:0:0 0\nblock\nstuck - -": 3,
		"func xf 0:x:0:0 0\nblock x\nstuck - -\n":          2,
		"func xf 0:x:0:0 0\nfunc xf 0:x:0:0 0\n":           2,
		"func xf 0:x:0:0\n":                                1,
		"func f 0:x:0:0 0\n":                               1,
		"func xf 0:x:0:0 0 \n":                             1,
		"func xf 0:x:0:0 0\nblock\nstuck - -\nstuck - -\n": 4,
		"func xf 0:x:0:0 0\nblock\nstuck - -\n\n":          4,
		"func xf 0:x:0:0 0\nblock\nstuck - -\nblock\n":     5,
	} {
		if _, at, e := ssa.Parse(s); e != ssa.ErrLine || at != line {
			t.Errorf("%q: error %d in the line %d, want %d", s, e, at, line)
		}
	}
}

// TestTextLimits is P19.1 for the sizes of texts.
func TestTextLimits(t *testing.T) {
	small := func(n int) []ssa.Func {
		var l []ssa.Func
		for range n {
			l = append(l, ssa.Func{Blocks: []ssa.Block{block("s")}})
		}
		return l
	}
	if s, e := ssa.Print(small(500)); e != api.OK || strings.Count(s, "\n") != 1500 {
		t.Errorf("500 functions: error %d", e)
	}
	wrong := small(501)
	wrong[0].Blocks = nil
	if _, e := ssa.Print(wrong); e != api.ErrSize {
		t.Errorf("501 functions: error %d", e)
	}
	if _, line, e := ssa.Parse(strings.Repeat("func x 0:x:0:0 0\nblock\nstuck - -\n", 501)); e != api.ErrSize || line != 0 {
		t.Errorf("501 functions in a text: error %d in the line %d", e, line)
	}
	// An instruction with a text of 4000 bytes of which each is written as three.
	texts := func(n, rest int) []ssa.Func {
		f := function(1, block("r 0"))
		for i := range n {
			f.Blocks[0].Ins = append(f.Blocks[0].Ins, ssa.Ins{Op: ssa.Text, Result: 10 + i, Text: strings.Repeat("-", 4000)})
		}
		f.Blocks[0].Ins = append(f.Blocks[0].Ins, ssa.Ins{Op: ssa.Text, Result: 9, Text: strings.Repeat("a", rest)})
		return []ssa.Func{f}
	}
	s, _ := ssa.Print(texts(83, 0))
	rest := 1000000 - len(s)
	if s, e := ssa.Print(texts(83, rest)); e != api.OK || len(s) != 1000000 {
		t.Errorf("a text with %d bytes: error %d", len(s), e)
	} else if _, line, e := ssa.Parse(s); e != api.OK || line != 0 {
		t.Errorf("Parse of 10^6 bytes: error %d", e)
	} else if _, line, e := ssa.Parse("x" + s); e != api.ErrSize || line != 0 {
		t.Errorf("Parse of 10^6 + 1 bytes: error %d", e)
	}
	if s, e := ssa.Print(texts(83, rest+1)); e != api.ErrLarge || s != "" {
		t.Errorf("a text with a byte more: error %d", e)
	}
	// The first function with an error decides; a type that has no text comes behind a shape, and ahead of the next function.
	l := append(texts(90, 0), written()...)
	l[1].Result.Kind = 100
	l[2].Blocks = nil
	if _, e := ssa.Print(l); e != api.ErrForm {
		t.Errorf("a type with the Kind 100: error %d", e)
	}
	l[0].Blocks = nil
	if _, e := ssa.Print(l); e != api.ErrSize {
		t.Errorf("no blocks: error %d", e)
	}
}

// TestExamples are the chapter's.
func TestExamples(t *testing.T) {
	f := function(1, block("b12 0"), block("j3"), block("j3"), block("r 0"))
	above, e := ssa.Dominators(f)
	frontier, e2 := ssa.Frontier(f)
	if e != api.OK || e2 != api.OK || told(above) != "[-1 0 0 0]" || told(frontier) != "[[] [3] [3] []]" {
		t.Errorf("errors %d %d: %v, %v", e, e2, above, frontier)
	}
	u8 := api.Type{Kind: api.TypeName, Name: "U8", Cap: api.Val}
	first := store(3, "x", 1)
	first.Type = u8
	f = function(1, block("b12 0", constant(1), tuple(2, 0, 1)), block("j3", first), block("j3", store(4, "x", 2)), block("r 6", store(5, "y", 0), load(6, "x")))
	p, e := ssa.Promote(f)
	want := function(1, block("b12 0", constant(1), tuple(2, 0, 1)), block("j3"), block("j3"), block("r 3", phi(3, 1, 2)))
	want.Blocks[3].Ins[0].Type = u8
	if e != api.OK || told(p) != told(want) {
		t.Errorf("error %d: %v", e, p)
	}
	if _, e := ssa.Dominates(f, 0, 4); e != api.ErrNone {
		t.Errorf("Dominates of no block: error %d", e)
	}
	if _, e := ssa.Dominates(f, -1, 0); e != api.ErrNone {
		t.Errorf("Dominates of the block -1: error %d", e)
	}
}

// TestPromoteTables is P19.6 where what is asked for is told outright: the order of phis, results of stores, and ErrUse.
func TestPromoteTables(t *testing.T) {
	// Two variables in a loop: the phis stand behind the one that is there, y ahead of x.
	f := function(2,
		block("j1", store(2, "y", 0), store(3, "x", 1)),
		block("b12 4", phi(4, 0, 5), load(5, "x"), store(6, "x", 0), load(7, "y"), store(8, "y", 7)),
		block("r 9", tuple(9, 6, 8)))
	p, e := ssa.Promote(f)
	want := function(2, block("j1"), block("b12 2", phi(2, 0, 4), phi(3, 0, 3), phi(4, 1, 0)), block("r 5", tuple(5, 4, 3)))
	if e != api.OK || told(p) != told(want) {
		t.Errorf("error %d: %v", e, p)
	}
	for name, c := range map[string]struct {
		f ssa.Func
		e api.Errno
	}{
		"a load of what was never stored":      {function(1, block("r 0", load(1, "x"))), ssa.ErrUse},
		"a load behind one store of two ways":  {function(1, block("b12 0"), block("j3", store(1, "x", 0)), block("j3"), block("r 0", load(2, "x"))), ssa.ErrUse},
		"a used result of the first store":     {function(1, block("r 1", store(1, "x", 0))), ssa.ErrUse},
		"an unused result of the first store":  {function(1, block("r 0", store(1, "x", 0))), api.OK},
		"a used result of the second store":    {function(1, block("r 2", store(1, "x", 0), store(2, "x", 0))), api.OK},
		"a function that is not right":         {function(1, block("r 7", load(1, "x"))), ssa.ErrUse},
		"a function whose shape is not right":  {function(1, block("r 0", load(0, "x"))), api.ErrRange},
		"a load that stores itself":            {function(1, block("r 2", store(1, "x", 0), load(2, "x"), store(3, "x", 2))), api.OK},
		"a store in a loop behind its load":    {function(1, block("j1"), block("b12 0", load(1, "x"), store(2, "x", 0)), block("r 0")), ssa.ErrUse},
		"a variable with the name of none":     {function(1, block("r 3", store(1, "x", 0), store(2, "y", 0), load(3, "x"))), api.OK},
		"a store whose argument is a load's":   {function(1, block("r 5", store(1, "x", 0), load(2, "x"), store(3, "y", 2), load(4, "y"), tuple(5, 4, 2))), api.OK},
		"a store that uses the store ahead":    {function(1, block("r 4", store(1, "x", 0), store(2, "x", 0), store(3, "y", 2), load(4, "y"))), api.OK},
		"a block that is not reached":          {function(1, block("r 0"), block("s")), ssa.ErrBlock},
		"a try whose error way lacks a store":  {function(1, trying(1, 2, call(1, 0)), block("j3", store(2, "x", 0)), block("j3"), block("r 3", load(3, "x"))), ssa.ErrUse},
		"a try with a store ahead of both":     {function(1, trying(1, 2, call(2, 0), store(1, "x", 0)), block("j3", store(3, "x", 2)), block("j3"), block("r 4", load(4, "x"))), api.OK},
		"an unused load of what is not stored": {function(1, block("j1", load(1, "x")), block("s")), ssa.ErrUse},
	} {
		if _, e := ssa.Promote(c.f); e != c.e {
			t.Errorf("%s: error %d, want %d", name, e, c.e)
		}
	}
}

// TestCleanErrors is P19.1 for Clean and Equal of functions that are not right.
func TestCleanErrors(t *testing.T) {
	for name, c := range map[string]struct {
		f, g ssa.Func
		e    api.Errno
	}{
		"a shape":                              {function(1, block("j")), ssa.Func{}, api.ErrSize},
		"a use that is not there":              {function(1, block("r 3")), ssa.Func{}, ssa.ErrUse},
		"a use of what is in no reached block": {function(1, block("r 1"), block("s", constant(1))), ssa.Func{}, ssa.ErrUse},
		"a phi that loses an argument":         {function(1, block("j2"), block("j2"), block("r 1", phi(1, 0, 9))), function(1, block("j1"), block("r 1", phi(1, 0))), api.OK},
		"a phi that has lost it":               {function(1, block("j2"), block("j2"), block("r 1", phi(1, 0))), function(1, block("j1"), block("r 1", phi(1, 0))), api.OK},
		"a phi with too many":                  {function(1, block("j2"), block("j2"), block("r 1", phi(1, 0, 0, 0))), ssa.Func{}, ssa.ErrPhi},
		"a try that is left alone":             {function(1, trying(2, 3, call(7, 0)), block("j2"), block("r 7"), block("s")), function(1, trying(1, 2, call(1, 0)), block("r 1"), block("s")), api.OK},
		"great numbers":                        {function(1, block("r 9", constant(99999), ssa.Ins{Op: ssa.Tuple, Result: 9, Args: []int{99999, 0}})), function(1, block("r 2", constant(1), tuple(2, 1, 0))), api.OK},
	} {
		if g, e := ssa.Clean(c.f); e != c.e || told(g) != told(c.g) {
			t.Errorf("%s: error %d: %v", name, e, g)
		}
	}
	none := function(1, block("r 3", tuple(1, 7, 7)))
	other := function(1, block("r 9", tuple(1, 5, 6)))
	if !ssa.Equal(none, other) {
		t.Errorf("values that nothing makes do not count as one")
	}
	if shape := function(1, block("j")); ssa.Equal(shape, shape) {
		t.Errorf("a function without the shape is equal to itself")
	}
	if ssa.Equal(function(1, block("r 1", tuple(1, 0, 5))), function(1, block("r 1", tuple(1, 5, 0)))) {
		t.Errorf("a parameter counts as what nothing makes")
	}
}
