package ssa_test

import (
	"strconv"
	"strings"
	"testing"

	"hackamore/api"
	"hackamore/ssa"
)

// many returns as many instructions as are wanted, from a Result on.
func many(n, first int) []ssa.Ins {
	var l []ssa.Ins
	for i := range n {
		l = append(l, constant(first+i))
	}
	return l
}

// chain returns as many blocks as are wanted, each of which jumps to the next one.
func chain(n int) []ssa.Block {
	var l []ssa.Block
	for i := range n - 1 {
		l = append(l, ssa.Block{End: ssa.End{Kind: ssa.Jump, To: []int{i + 1}}})
	}
	return append(l, block("s"))
}

// deep returns a value with a depth.
func deep(n int) api.Value {
	v := number(1)
	for range n - 1 {
		v = api.Value{Kind: api.ValTuple, Kids: []api.Value{v}}
	}
	return v
}

// one returns a function with one instruction.
func one(i ssa.Ins) ssa.Func { return function(2, block("r 0", i)) }

// TestInstructions is P19.1 for the form of instructions.
func TestInstructions(t *testing.T) {
	long := strings.Repeat("a", 201)
	for name, c := range map[string]struct {
		i ssa.Ins
		e api.Errno
	}{
		"const":              {ssa.Ins{Op: ssa.Const, Result: 2, Lit: deep(8)}, api.OK},
		"const, too deep":    {ssa.Ins{Op: ssa.Const, Result: 2, Lit: deep(10)}, api.ErrForm},
		"const, 64 kids":     {ssa.Ins{Op: ssa.Const, Result: 2, Lit: api.Value{Kids: make([]api.Value, 64)}}, api.OK},
		"const, 65 kids":     {ssa.Ins{Op: ssa.Const, Result: 2, Lit: api.Value{Kids: make([]api.Value, 65)}}, api.ErrForm},
		"no operation":       {ssa.Ins{Op: 0, Result: -1, Args: make([]int, 999)}, api.ErrArg},
		"another operation":  {ssa.Ins{Op: 18, Result: 2}, api.ErrArg},
		"const with args":    {ssa.Ins{Op: ssa.Const, Result: -1, Args: []int{-1}, Text: "x"}, api.ErrSize},
		"const with text":    {ssa.Ins{Op: ssa.Const, Result: -1, Text: "x"}, api.ErrForm},
		"text, empty":        {ssa.Ins{Op: ssa.Text, Result: 2}, api.OK},
		"text, long":         {ssa.Ins{Op: ssa.Text, Result: 2, Text: strings.Repeat("a", 4000)}, api.OK},
		"text, too long":     {ssa.Ins{Op: ssa.Text, Result: 2, Text: strings.Repeat("a", 4001)}, api.ErrForm},
		"text, no UTF-8":     {ssa.Ins{Op: ssa.Text, Result: 2, Text: "\xff"}, api.ErrForm},
		"text with a lit":    {ssa.Ins{Op: ssa.Text, Result: 2, Lit: number(0)}, api.ErrForm},
		"load":               {ssa.Ins{Op: ssa.Load, Result: 2, Text: long[1:]}, api.OK},
		"store":              {store(2, "x", 1), api.OK},
		"store, no name":     {store(2, "", 1), api.ErrForm},
		"store, long name":   {store(2, long, 1), api.ErrForm},
		"store, no UTF-8":    {store(2, "\xc3", 1), api.ErrForm},
		"store with a name":  {ssa.Ins{Op: ssa.Store, Result: 2, Text: "x", Name: "y", Args: []int{0}}, api.ErrForm},
		"get":                {ssa.Ins{Op: ssa.Get, Result: 2, Text: "x", Args: []int{0}}, api.OK},
		"get, two args":      {ssa.Ins{Op: ssa.Get, Result: 2, Text: "x", Args: []int{0, 1}}, api.ErrSize},
		"set":                {ssa.Ins{Op: ssa.Set, Result: 2, Text: "x", Args: []int{0, 1}}, api.OK},
		"make":               {ssa.Ins{Op: ssa.Make, Result: 2, Text: "C", Flag: true}, api.OK},
		"get with a flag":    {ssa.Ins{Op: ssa.Get, Result: 2, Text: "x", Args: []int{0}, Flag: true}, api.ErrForm},
		"call":               {call(2, make([]int, 64)...), api.OK},
		"call, 65 args":      {call(2, make([]int, 65)...), api.ErrSize},
		"call, no args":      {call(2), api.ErrSize},
		"direct":             {ssa.Ins{Op: ssa.Direct, Result: 2, Text: "f"}, api.OK},
		"native":             {ssa.Ins{Op: ssa.Native, Result: 2, Text: "U8.add"}, api.OK},
		"spawn":              {ssa.Ins{Op: ssa.Spawn, Result: 2, Text: "create", Name: "A"}, api.OK},
		"spawn, no name":     {ssa.Ins{Op: ssa.Spawn, Result: 2, Text: "create"}, api.ErrForm},
		"spawn, long name":   {ssa.Ins{Op: ssa.Spawn, Result: 2, Text: "create", Name: long}, api.ErrForm},
		"send, no args":      {ssa.Ins{Op: ssa.Send, Result: 2, Text: "b"}, api.ErrSize},
		"tuple":              {tuple(2, make([]int, 64)...), api.OK},
		"tuple of one":       {tuple(2, 1), api.ErrSize},
		"tuple of 65":        {tuple(2, make([]int, 65)...), api.ErrSize},
		"item":               {ssa.Ins{Op: ssa.Item, Result: 2, N: 63, Args: []int{0}}, api.OK},
		"item 64":            {ssa.Ins{Op: ssa.Item, Result: 2, N: 64, Args: []int{0}}, api.ErrForm},
		"item -1":            {ssa.Ins{Op: ssa.Item, Result: 2, N: -1, Args: []int{0}}, api.ErrForm},
		"is with a number":   {ssa.Ins{Op: ssa.Is, Result: 2, N: 1, Args: []int{0, 1}}, api.ErrForm},
		"is, one arg":        {ssa.Ins{Op: ssa.Is, Result: 2, Args: []int{0}}, api.ErrSize},
		"fits":               {ssa.Ins{Op: ssa.Fits, Result: 2, Args: []int{0}, Type: api.Type{Kind: 77}}, api.OK},
		"arg -1":             {tuple(2, 0, -1), api.ErrRange},
		"arg 100000":         {tuple(2, 0, 100000), ssa.ErrUse},
		"arg 100001":         {tuple(2, 0, 100001), api.ErrRange},
		"result 1":           {constant(1), api.ErrRange},
		"result 100000":      {constant(100000), api.OK},
		"result 100001":      {constant(100001), api.ErrRange},
		"phi in the block 0": {phi(2), ssa.ErrPhi},
		"phi, 401 args":      {phi(2, make([]int, 401)...), api.ErrSize},
		"phi, 400 args":      {phi(2, make([]int, 400)...), ssa.ErrPhi},
	} {
		fault, e := ssa.CheckFunc(one(c.i))
		if e != c.e || fault != (ssa.Fault{}) {
			t.Errorf("%s: error %d at %v, want %d", name, e, fault, c.e)
		}
	}
}

// TestFunctions is P19.1 for the form of functions and ends, and for what is there: the first error, and its place.
func TestFunctions(t *testing.T) {
	wide := function(65, block("r 0"))
	bad := function(1, block("r 0", constant(-1)))
	bad.Name = "\xff"
	for name, c := range map[string]struct {
		f         ssa.Func
		e         api.Errno
		block, at int
	}{
		"no blocks":                    {function(1), api.ErrSize, 0, 0},
		"64 parameters":                {function(64, block("r 0")), api.OK, 0, 0},
		"65 parameters":                {wide, api.ErrSize, 0, 0},
		"400 blocks":                   {function(1, chain(400)...), api.OK, 0, 0},
		"401 blocks":                   {function(1, chain(401)...), api.ErrSize, 0, 0},
		"4000 instructions":            {function(1, block("r 0", many(4000, 1)...)), api.OK, 0, 0},
		"4001 instructions":            {function(1, block("r 0", many(4001, 1)...)), api.ErrSize, 0, 0},
		"4000 and a try":               {function(1, trying(1, 2, call(9000, 0), many(4000, 1)...), block("s"), block("s")), api.ErrSize, 0, 0},
		"a name, ahead of all in it":   {bad, api.ErrForm, 0, 0},
		"no kind":                      {function(1, ssa.Block{End: ssa.End{Kind: 7, Args: make([]int, 9)}}), api.ErrArg, 0, 0},
		"a jump without To":            {function(1, block("j", constant(1))), api.ErrSize, 0, 1},
		"a branch without Args":        {function(1, block("b11"), block("s")), api.ErrSize, 0, 0},
		"a return of -1":               {function(1, ssa.Block{End: ssa.End{Kind: ssa.Return, Args: []int{-1}}}), api.ErrRange, 0, 0},
		"a return of 100001":           {function(1, ssa.Block{End: ssa.End{Kind: ssa.Return, Args: []int{100001}}}), api.ErrRange, 0, 0},
		"a try of a native":            {function(1, trying(1, 2, ssa.Ins{Op: ssa.Native, Text: "x", Result: 1}), block("s"), block("s")), api.ErrArg, 0, 0},
		"a try of a wrong call":        {function(1, trying(1, 2, call(1)), block("s"), block("s")), api.ErrSize, 0, 0},
		"a try with a Result ahead":    {function(1, trying(1, 2, call(1, 0), constant(1)), block("s"), block("s")), api.ErrTwice, 0, 1},
		"a jump with a Call":           {function(1, ssa.Block{End: ssa.End{Kind: ssa.Jump, To: []int{0}, Call: ssa.Ins{Type: api.Type{Cap: 1}}}}), api.ErrArg, 0, 0},
		"a jump to 0":                  {function(1, block("j0")), ssa.ErrBlock, 0, 0},
		"a jump to 2":                  {function(1, block("j2"), block("s")), ssa.ErrBlock, 0, 0},
		"a try to one block":           {function(1, trying(1, 1, call(1, 0)), block("s")), ssa.ErrBlock, 0, 0},
		"a Result twice":               {function(1, block("j1", constant(1)), block("s", constant(2), constant(1))), api.ErrTwice, 1, 1},
		"a phi behind another one":     {function(1, block("j1"), block("s", phi(1, 0), constant(2), phi(3, 0))), ssa.ErrPhi, 1, 2},
		"a shape ahead of all uses":    {function(1, block("r 9"), block("j")), api.ErrSize, 1, 0},
		"a block that is not reached":  {function(1, block("r 9"), block("s", constant(1), constant(2))), ssa.ErrBlock, 1, 0},
		"a try with a ready block":     {function(1, block("b13 0"), trying(2, 3, call(1, 0), constant(2)), block("s"), block("j2")), ssa.ErrBlock, 1, 1},
		"a use that is not there":      {function(1, block("j1"), block("s", tuple(1, 0, 2), constant(2))), ssa.ErrUse, 1, 0},
		"a use at an end":              {function(1, block("r 1")), ssa.ErrUse, 0, 0},
		"a use in a Call":              {function(1, trying(1, 2, call(1, 1)), block("s"), block("s")), ssa.ErrUse, 0, 0},
		"a Result of a try":            {function(1, trying(1, 2, call(1, 0)), block("r 1"), block("s")), api.OK, 0, 0},
		"a Result of a failed try":     {function(1, trying(1, 2, call(1, 0)), block("s"), block("r 1")), ssa.ErrUse, 2, 0},
		"a Result of a try in a phi":   {function(1, trying(1, 2, call(1, 0)), block("s", phi(2, 1)), block("s")), ssa.ErrUse, 1, 0},
		"a use of another way":         {function(1, block("b12 0"), block("j3", constant(1)), block("j3"), block("r 1")), ssa.ErrUse, 3, 0},
		"a phi of both":                {function(1, block("b12 0"), block("j3", constant(1)), block("j3"), block("r 2", phi(2, 1, 0))), api.OK, 0, 0},
		"a phi of the wrong ones":      {function(1, block("b12 0"), block("j3", constant(1)), block("j3"), block("r 2", phi(2, 0, 1))), ssa.ErrUse, 3, 0},
		"a phi of one":                 {function(1, block("b12 0"), block("j3", constant(1)), block("j3"), block("r 2", phi(2, 9))), ssa.ErrPhi, 3, 0},
		"a phi of a branch to one":     {function(1, block("b11 0"), block("r 1", phi(1, 0, 0))), api.OK, 0, 0},
		"a phi of itself":              {function(1, block("j1"), block("b12 1", phi(1, 0, 1)), block("r 1")), api.OK, 0, 0},
		"phis that exchange":           {function(1, block("j1"), block("b12 1", phi(1, 0, 2), phi(2, 0, 1)), block("r 1")), api.OK, 0, 0},
		"a phi of the block's own one": {function(1, block("j1"), block("b12 1", phi(1, 2, 0), constant(2)), block("r 1")), ssa.ErrUse, 1, 0},
	} {
		fault, e := ssa.CheckFunc(c.f)
		if e != c.e || fault != (ssa.Fault{Block: c.block, At: c.at}) {
			t.Errorf("%s: error %d at %v, want %d at %d %d", name, e, fault, c.e, c.block, c.at)
		}
		if _, e := ssa.Preds(c.f); e != c.e {
			t.Errorf("%s: Preds: error %d", name, e)
		}
	}
}

// TestPrograms is P19.1 for programs.
func TestPrograms(t *testing.T) {
	named := func(name string, l ...ssa.Ins) ssa.Func {
		f := function(1, block("r 0", l...))
		f.Name = name
		return f
	}
	direct := func(text string, result int, args ...int) ssa.Ins {
		return ssa.Ins{Op: ssa.Direct, Text: text, Result: result, Args: args}
	}
	tried := function(1, trying(1, 2, direct("f", 2), direct("f", 1, 0)), block("r 2"), block("s"))
	tried.Name = "g"
	var funcs []ssa.Func
	for i := range 501 {
		funcs = append(funcs, named("f"+strconv.Itoa(i)))
	}
	for name, c := range map[string]struct {
		p     ssa.Program
		e     api.Errno
		fault ssa.Fault
	}{
		"empty":                     {ssa.Program{}, api.OK, ssa.Fault{}},
		"200 entities":              {ssa.Program{Entities: make([]api.Entity, 200)}, api.OK, ssa.Fault{}},
		"201 entities":              {ssa.Program{Entities: make([]api.Entity, 201), Funcs: []ssa.Func{{}}}, api.ErrSize, ssa.Fault{}},
		"500 functions":             {ssa.Program{Funcs: funcs[:500]}, api.OK, ssa.Fault{}},
		"501 functions":             {ssa.Program{Funcs: funcs}, api.ErrSize, ssa.Fault{}},
		"a wrong function":          {ssa.Program{Funcs: []ssa.Func{named("f"), named("g", constant(1), tuple(2, 5, 6))}}, ssa.ErrUse, ssa.Fault{Func: 1, At: 1}},
		"two of one name":           {ssa.Program{Funcs: []ssa.Func{named("f", direct("x", 1)), named("g"), named("f"), {}}}, api.ErrTwice, ssa.Fault{Func: 2}},
		"a direct of none":          {ssa.Program{Funcs: []ssa.Func{named("f"), named("g", constant(1), direct("x", 2))}}, api.ErrNone, ssa.Fault{Func: 1, At: 1}},
		"a direct with no args":     {ssa.Program{Funcs: []ssa.Func{named("f", direct("g", 1)), named("g")}}, api.ErrSize, ssa.Fault{}},
		"a direct of a later one":   {ssa.Program{Funcs: []ssa.Func{named("f", direct("g", 1, 0)), named("g")}}, api.OK, ssa.Fault{}},
		"a direct at an end":        {ssa.Program{Funcs: []ssa.Func{named("f"), tried}}, api.ErrSize, ssa.Fault{Func: 1, At: 1}},
		"a direct of a wrong place": {ssa.Program{Funcs: []ssa.Func{named("f", direct("g", 1)), {}}}, api.ErrSize, ssa.Fault{Func: 1}},
	} {
		fault, e := ssa.Check(c.p)
		if e != c.e || fault != c.fault {
			t.Errorf("%s: error %d at %v, want %d at %v", name, e, fault, c.e, c.fault)
		}
	}
}
