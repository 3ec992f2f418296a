package lower_test

import (
	"strconv"
	"strings"
	"testing"

	"hackamore/api"
	"hackamore/lower"
	"hackamore/meaning"
	"hackamore/notation"
	"hackamore/ssa"
	"hackamore/world"
)

// text is the program of the functions that are run by hand.
const text = least + `
	class ref main.C
	var n: U8 val
	new ref create(n: U8 val) => this
	fun box get(): U8 val => this
	fun box some(): U8 val ? => this
	actor tag main.A
	var n: U8 val
	new tag create(n: U8 val) => this
	new tag bare(n: U8 val)
	be tag go(n: U8 val) => this
	be tag given(n: U8 val)
	fun box get(): U8 val => this
	class ref String
`

func number(n uint64) api.Value { return api.Value{Kind: api.ValNumber + 6, Lo: n} }

func usize(n uint64) api.Value { return api.Value{Kind: api.ValNumber + 11, Lo: n} }

// ins returns an instruction with a text and Args; its Result is set where it stands.
func ins(op int, text string, args ...int) ssa.Ins { return ssa.Ins{Op: op, Text: text, Args: args} }

func lit(v api.Value) ssa.Ins { return ssa.Ins{Op: ssa.Const, Lit: v} }

func back(v int) ssa.End { return ssa.End{Kind: ssa.Return, Args: []int{v}} }

// body returns a function whose first block has instructions, numbered behind the parameters.
func body(name string, params int, end ssa.End, l ...ssa.Ins) ssa.Func {
	for i := range l {
		l[i].Result = params + i
	}
	return ssa.Func{Name: name, Params: make([]api.Type, params), Blocks: []ssa.Block{{Ins: l, End: end}}}
}

// functions are those beside the one of the constructor of main.Main, whose values are the actor 0, the Env 1, and from 2 on the others.
func functions(main ssa.Func) ssa.Program {
	raising := body("main.C.some", 1, ssa.End{Kind: ssa.Error})
	raising.Partial = true
	return ssa.Program{Funcs: []ssa.Func{
		main,
		body("main.C.get", 1, back(1), ins(ssa.Get, "n", 0)),
		raising,
		body("main.C.lies", 1, ssa.End{Kind: ssa.Error}),
		body("main.C.stuck", 1, ssa.End{Kind: ssa.Stuck}),
		body("main.C.deep", 1, back(1), ins(ssa.Call, "deep", 0)),
		body("main.C.seven", 1, back(1), lit(number(7))),
		body("main.A.go", 2, back(2), ins(ssa.Set, "n", 0, 1)),
		body("two", 2, back(1)),
	}}
}

// outcome runs the first message of the program, and returns the text of its end: with what is in the field root of the Env, or with
// the code; and how much fuel it used.
func outcome(t *testing.T, main ssa.Func, fuel int) (string, int) {
	t.Helper()
	w, e := world.New(notation.Program(text), []string{"ab"})
	if e != api.OK {
		t.Fatalf("New: error %d", e)
	}
	f := functions(main)
	if at, e := ssa.Check(f); e != api.OK {
		t.Fatalf("the functions have the error %d at %v", e, at)
	}
	used, end, ok := lower.Step(f, w, 0, fuel)
	if !ok {
		t.Fatalf("nobody has mail")
	}
	if end.Kind != meaning.Rest {
		if end.Actor != 1 {
			t.Errorf("it ends at the actor %d", end.Actor)
		}
		return []string{"", "fuel ", "stuck "}[end.Kind] + strconv.Itoa(int(end.Code)), used
	}
	v, _ := w.Get(api.Value{Kind: api.ValObject, Lo: 2}, "root")
	s, _ := w.Show(v)
	return "rest " + s, used
}

// TestOperations is P20.1 for instructions: each one of a constructor, whose value becomes a field of the Env.
func TestOperations(t *testing.T) {
	const rest, stuck, fuel = "rest ", "stuck ", "fuel "
	obj := api.Value{Kind: api.ValObject, Lo: 2}
	actor := func(n uint64) api.Value { return api.Value{Kind: api.ValActor, Lo: n} }
	pair := api.Value{Kind: api.ValTuple, Kids: []api.Value{number(1), usize(2)}}
	for name, c := range map[string]struct {
		l    []ssa.Ins
		want string
	}{
		"const":                         {[]ssa.Ins{lit(number(7))}, rest + "U8 7"},
		"const of nothing":              {[]ssa.Ins{lit(api.Value{})}, stuck + "192"},
		"const of a wrong value":        {[]ssa.Ins{lit(api.Value{Kind: api.ValUnit, Name: "main.X"})}, stuck + "190"},
		"text":                          {[]ssa.Ins{ins(ssa.Text, "a\"")}, rest + `"a\""#0`},
		"load":                          {[]ssa.Ins{lit(number(7)), ins(ssa.Store, "x", 2), ins(ssa.Load, "x")}, rest + "U8 7"},
		"load of nothing":               {[]ssa.Ins{ins(ssa.Load, "x")}, stuck + "192"},
		"load of a value that is none":  {[]ssa.Ins{lit(api.Value{}), ins(ssa.Store, "x", 2), ins(ssa.Load, "x")}, stuck + "192"},
		"store":                         {[]ssa.Ins{lit(number(7)), ins(ssa.Store, "x", 2)}, rest + "None"},
		"store behind a store":          {[]ssa.Ins{lit(number(7)), ins(ssa.Store, "x", 2), ins(ssa.Store, "x", 3)}, rest + "U8 7"},
		"store behind one of none":      {[]ssa.Ins{lit(api.Value{}), ins(ssa.Store, "x", 2), ins(ssa.Store, "x", 2)}, rest + "None"},
		"get":                           {[]ssa.Ins{ins(ssa.Get, "out", 1)}, rest + "@0"},
		"get of nothing":                {[]ssa.Ins{ins(ssa.Make, "main.C"), ins(ssa.Get, "n", 2)}, stuck + "192"},
		"get of no field":               {[]ssa.Ins{ins(ssa.Get, "none", 1)}, stuck + "191"},
		"get of another actor":          {[]ssa.Ins{ins(ssa.Get, "out", 1), ins(ssa.Get, "n", 2)}, stuck + "13"},
		"get of this actor":             {[]ssa.Ins{ins(ssa.Get, "none", 0)}, stuck + "191"},
		"set":                           {[]ssa.Ins{lit(number(7)), ins(ssa.Make, "main.C"), ins(ssa.Set, "n", 3, 2)}, rest + "None"},
		"set of what was there":         {[]ssa.Ins{lit(number(7)), ins(ssa.Set, "args", 1, 2), ins(ssa.Set, "args", 1, 0)}, rest + "U8 7"},
		"set of another actor":          {[]ssa.Ins{lit(actor(0)), ins(ssa.Set, "n", 2, 2)}, stuck + "13"},
		"set of no field":               {[]ssa.Ins{ins(ssa.Set, "n", 1, 1)}, stuck + "191"},
		"make":                          {[]ssa.Ins{ins(ssa.Make, "main.C")}, rest + "main.C#0{n=none}"},
		"make, flagged":                 {[]ssa.Ins{{Op: ssa.Make, Text: "main.C", Flag: true}}, rest + "main.C#0{n=none}"},
		"make of an Array":              {[]ssa.Ins{ins(ssa.Make, "Array[x]")}, rest + "Array[x]#0{}"},
		"make of no Array":              {[]ssa.Ins{ins(ssa.Make, "Array[x")}, stuck + "191"},
		"make of an actor":              {[]ssa.Ins{ins(ssa.Make, "main.A")}, stuck + "191"},
		"call":                          {[]ssa.Ins{ins(ssa.Make, "main.C"), ins(ssa.Call, "seven", 2)}, rest + "U8 7"},
		"call of a runtime's method":    {[]ssa.Ins{lit(number(7)), ins(ssa.Call, "add", 2, 2)}, rest + "U8 14"},
		"call of an unknown method":     {[]ssa.Ins{ins(ssa.Call, "none", 1)}, stuck + "191"},
		"call of a method without body": {[]ssa.Ins{lit(api.Value{Kind: api.ValUnit, Name: "None"}), ins(ssa.Call, "string", 2)}, rest + `"None"#0`},
		"call of a tuple":               {[]ssa.Ins{lit(pair), ins(ssa.Call, "get", 2)}, stuck + "11"},
		"call with too many":            {[]ssa.Ins{ins(ssa.Make, "main.C"), ins(ssa.Call, "seven", 2, 2)}, stuck + "4"},
		"call of one that raises":       {[]ssa.Ins{ins(ssa.Make, "main.C"), ins(ssa.Call, "some", 2)}, stuck + "14"},
		"call of one that lies":         {[]ssa.Ins{ins(ssa.Make, "main.C"), ins(ssa.Call, "lies", 2)}, stuck + "14"},
		"call of one that is stuck":     {[]ssa.Ins{ins(ssa.Make, "main.C"), ins(ssa.Call, "stuck", 2)}, stuck + "14"},
		"call that raises below":        {[]ssa.Ins{lit(number(0)), ins(ssa.Call, "div_partial", 2, 2)}, stuck + "14"},
		"call without end":              {[]ssa.Ins{ins(ssa.Make, "main.C"), ins(ssa.Call, "deep", 2)}, fuel + "9"},
		"direct":                        {[]ssa.Ins{lit(number(7)), ins(ssa.Direct, "two", 0, 2)}, rest + "U8 7"},
		"direct that is stuck":          {[]ssa.Ins{ins(ssa.Direct, "main.C.stuck", 0)}, stuck + "14"},
		"direct that raises":            {[]ssa.Ins{ins(ssa.Direct, "main.C.some", 0)}, stuck + "14"},
		"native":                        {[]ssa.Ins{lit(number(7)), ins(ssa.Native, "a.b.add", 2, 2)}, rest + "U8 14"},
		"native without a dot":          {[]ssa.Ins{lit(number(7)), ins(ssa.Native, "mul", 2, 2)}, rest + "U8 49"},
		"native of no method":           {[]ssa.Ins{ins(ssa.Native, "main.C.get", 1)}, stuck + "191"},
		"native that raises":            {[]ssa.Ins{lit(number(0)), ins(ssa.Native, "U8.rem_partial", 2, 2)}, stuck + "14"},
		"spawn":                         {[]ssa.Ins{lit(number(7)), {Op: ssa.Spawn, Name: "main.A", Text: "create", Args: []int{2}}}, rest + "@2"},
		"spawn without a body":          {[]ssa.Ins{lit(number(7)), {Op: ssa.Spawn, Name: "main.A", Text: "bare", Args: []int{2}}}, rest + "@2"},
		"spawn of a behaviour":          {[]ssa.Ins{lit(number(7)), {Op: ssa.Spawn, Name: "main.A", Text: "go", Args: []int{2}}}, stuck + "191"},
		"spawn of a class":              {[]ssa.Ins{lit(number(7)), {Op: ssa.Spawn, Name: "main.C", Text: "create", Args: []int{2}}}, stuck + "191"},
		"spawn of nothing":              {[]ssa.Ins{{Op: ssa.Spawn, Name: "main.X", Text: "create"}}, stuck + "191"},
		"spawn with too few":            {[]ssa.Ins{{Op: ssa.Spawn, Name: "main.A", Text: "create"}}, stuck + "4"},
		"send":                          {[]ssa.Ins{lit(actor(0)), ins(ssa.Send, "any", 2, 2)}, rest + "None"},
		"send to an object":             {[]ssa.Ins{ins(ssa.Send, "any", 1)}, stuck + "11"},
		"send to nobody":                {[]ssa.Ins{lit(actor(9)), ins(ssa.Send, "any", 2)}, stuck + "5"},
		"send of a wrong value":         {[]ssa.Ins{lit(api.Value{Kind: api.ValObject, Lo: 99}), ins(ssa.Send, "any", 0, 2)}, stuck + "190"},
		"tuple":                         {[]ssa.Ins{lit(number(7)), ins(ssa.Tuple, "", 2, 0)}, rest + "(U8 7, @1)"},
		"item":                          {[]ssa.Ins{lit(pair), {Op: ssa.Item, N: 1, Args: []int{2}}}, rest + "USize 2"},
		"item of a number":              {[]ssa.Ins{lit(number(7)), {Op: ssa.Item, N: 1, Args: []int{2}}}, stuck + "11"},
		"item that is not there":        {[]ssa.Ins{lit(pair), {Op: ssa.Item, N: 2, Args: []int{2}}}, stuck + "3"},
		"is":                            {[]ssa.Ins{lit(obj), ins(ssa.Is, "", 0, 2)}, rest + "false"},
		"is the same":                   {[]ssa.Ins{ins(ssa.Is, "", 1, 1)}, rest + "true"},
		"fits":                          {[]ssa.Ins{{Op: ssa.Fits, Type: notation.Type("(U8 val | Env tag)"), Args: []int{1}}}, rest + "true"},
		"fits not":                      {[]ssa.Ins{{Op: ssa.Fits, Type: notation.Type("U8 val"), Args: []int{1}}}, rest + "false"},
		"an argument that is none":      {[]ssa.Ins{lit(api.Value{}), ins(ssa.Tuple, "", 0, 2)}, stuck + "192"},
	} {
		last := len(c.l) + 1
		l := append(c.l, ins(ssa.Set, "root", 1, last))
		if got, _ := outcome(t, body("main.Main.create", 2, back(1), l...), 1000); got != c.want {
			t.Errorf("%s: %s, want %s", name, got, c.want)
		}
	}
}

// blocks returns the constructor of main.Main with blocks, behind which one writes a value to the field root and returns.
func blocks(l ...ssa.Block) ssa.Func {
	next := 2
	for b := range l {
		for at := range l[b].Ins {
			l[b].Ins[at].Result = next
			next++
		}
		if l[b].End.Kind == ssa.Try {
			l[b].End.Call.Result = next
			next++
		}
	}
	return ssa.Func{Name: "main.Main.create", Params: make([]api.Type, 2), Blocks: l}
}

// TestEnds is P20.1 for the ends of blocks, and the fuel that they use.
func TestEnds(t *testing.T) {
	write := func(v int) ssa.Block { return ssa.Block{Ins: []ssa.Ins{ins(ssa.Set, "root", 1, v)}, End: back(1)} }
	to := func(kind int, args []int, to ...int) ssa.End { return ssa.End{Kind: kind, Args: args, To: to} }
	try := func(c ssa.Ins) ssa.End { return ssa.End{Kind: ssa.Try, Call: c, To: []int{1, 2}} }
	one, two := lit(number(1)), lit(number(2))
	yes, no := lit(api.Value{Kind: api.ValBool, Lo: 1}), lit(api.Value{Kind: api.ValBool})
	b := func(end ssa.End, l ...ssa.Ins) ssa.Block { return ssa.Block{Ins: l, End: end} }
	for name, c := range map[string]struct {
		f    ssa.Func
		want string
		used int
	}{
		"jump":                 {blocks(b(to(ssa.Jump, nil, 1), one), write(2)), "rest U8 1", 5},
		"branch, true":         {blocks(b(to(ssa.Branch, []int{2}, 1, 2), yes), write(0), write(1)), "rest @1", 5},
		"branch, false":        {blocks(b(to(ssa.Branch, []int{2}, 1, 2), no, one), write(0), write(3)), "rest U8 1", 6},
		"branch of a number":   {blocks(b(to(ssa.Branch, []int{2}, 1, 2), one), write(0), write(1)), "stuck 11", 3},
		"branch of none":       {blocks(b(to(ssa.Branch, []int{2}, 1, 2), lit(api.Value{})), write(0), write(1)), "stuck 192", 3},
		"branch of a wrong":    {blocks(b(to(ssa.Branch, []int{2}, 1, 2), lit(api.Value{Kind: api.ValBool, Lo: 2})), write(0), write(1)), "stuck 11", 3},
		"return of none":       {blocks(b(back(2), lit(api.Value{}))), "stuck 192", 3},
		"error":                {blocks(b(ssa.End{Kind: ssa.Error})), "stuck 14", 2},
		"stuck":                {blocks(b(ssa.End{Kind: ssa.Stuck})), "stuck 14", 2},
		"a phi of both ways":   {blocks(b(to(ssa.Branch, []int{2}, 1, 1), no, one), b(back(1), ssa.Ins{Op: ssa.Phi, Args: []int{0, 3}}, ins(ssa.Set, "root", 1, 4))), "rest U8 1", 7},
		"a phi of the first":   {blocks(b(to(ssa.Branch, []int{2}, 1, 1), yes, one), b(back(1), ssa.Ins{Op: ssa.Phi, Args: []int{0, 3}}, ins(ssa.Set, "root", 1, 4))), "rest @1", 7},
		"a phi of none":        {blocks(b(to(ssa.Jump, nil, 1), lit(api.Value{})), b(back(1), ssa.Ins{Op: ssa.Phi, Args: []int{2}}, ins(ssa.Store, "x", 3), ins(ssa.Set, "root", 1, 4))), "rest None", 7},
		"a try of a value":     {blocks(b(try(ins(ssa.Call, "seven", 2)), ins(ssa.Make, "main.C")), write(3), write(0)), "rest U8 7", 7},
		"a try of an error":    {blocks(b(try(ins(ssa.Call, "some", 2)), ins(ssa.Make, "main.C")), write(3), write(0)), "rest @1", 6},
		"a try of a direct":    {blocks(b(try(ins(ssa.Direct, "main.C.some", 1))), write(2), write(0)), "rest @1", 5},
		"a try of a runtime's": {blocks(b(try(ins(ssa.Call, "div_partial", 2, 2)), lit(number(0))), write(3), write(0)), "rest @1", 5},
		"a try of a lie":       {blocks(b(try(ins(ssa.Call, "lies", 2)), ins(ssa.Make, "main.C")), write(3), write(0)), "stuck 14", 4},
		"a try of none":        {blocks(b(try(ins(ssa.Call, "seven", 2)), lit(api.Value{})), write(3), write(0)), "stuck 192", 3},
		"a try of no method":   {blocks(b(try(ins(ssa.Call, "none", 2)), one), write(3), write(0)), "stuck 5", 3},
		"a circle":             {blocks(b(to(ssa.Jump, nil, 1), yes), b(to(ssa.Branch, []int{2}, 1, 2), one, two), write(0)), "fuel 10", 100},
		"phis that exchange": {blocks(
			b(to(ssa.Jump, nil, 1), one, two, no),
			b(to(ssa.Branch, []int{7}, 2, 1), ssa.Ins{Op: ssa.Phi, Args: []int{2, 6}}, ssa.Ins{Op: ssa.Phi, Args: []int{3, 5}}, ins(ssa.Is, "", 5, 3)),
			write(6)), "rest U8 1", 15},
	} {
		got, used := outcome(t, c.f, 100)
		if got != c.want || used != c.used {
			t.Errorf("%s: %s with %d, want %s with %d", name, got, used, c.want, c.used)
		}
		for fuel := range c.used {
			if got, used := outcome(t, c.f, fuel); got != "fuel 10" || used != fuel {
				t.Errorf("%s: with the fuel %d it is %s with %d", name, fuel, got, used)
			}
		}
	}
}

// TestMessages is P20.1 for what a message does.
func TestMessages(t *testing.T) {
	for name, c := range map[string]struct {
		to   uint64
		name string
		args []api.Value
		want string
	}{
		"a behaviour":               {2, "go", []api.Value{number(5)}, "0 -1 0 U8 5"},
		"too few":                   {2, "go", nil, "2 2 4 none"},
		"none":                      {2, "none", nil, "2 2 191 none"},
		"a function":                {2, "get", nil, "2 2 191 none"},
		"one without a body":        {2, "given", []api.Value{number(5)}, "2 2 191 none"},
		"a constructor without":     {2, "bare", []api.Value{number(5)}, "2 2 191 none"},
		"the method of the runtime": {0, "print", []api.Value{{Kind: api.ValObject, Lo: 0}}, "0 -1 0 none"},
		"with another argument":     {0, "print", []api.Value{number(5)}, "2 0 11 none"},
	} {
		w, _ := world.New(notation.Program(text), []string{"ab"})
		w.Take(1)
		w.Spawn("main.A")
		if e := w.Send(api.Message{From: 1, To: int(c.to), Name: c.name, Args: c.args}); e != api.OK {
			t.Fatalf("Send: error %d", e)
		}
		_, end, ok := lower.Step(functions(body("main.Main.create", 2, back(1))), w, 7, 1000)
		v, _ := w.Get(api.Value{Kind: api.ValActor, Lo: 2}, "n")
		s, _ := w.Show(v)
		if got := strconv.Itoa(end.Kind) + " " + strconv.Itoa(end.Actor) + " " + strconv.Itoa(int(end.Code)) + " " + s; !ok || got != c.want {
			t.Errorf("%s: %s, want %s", name, got, c.want)
		}
		if _, end, ok := lower.Step(functions(body("main.Main.create", 2, back(1))), w, 7, 1000); ok || end != (meaning.End{Kind: meaning.Rest, Actor: -1}) {
			t.Errorf("%s: behind all messages it ends by %v, %v", name, end, ok)
		}
	}
}

// TestDepth is P20.1 for functions that are run in others: as deep as those of layer 18, and no deeper.
func TestDepth(t *testing.T) {
	for _, n := range []uint64{99, 100, 101} {
		p := notation.Program(strings.Replace(least, "new tag create(env: Env val) => unit{None val}", `
			new tag create(env: Env val) => (call.down this lit.`+strconv.Itoa(int(n))+`{U8 val})
			fun ref down(n: U8 val): U8 val => (if (call.eq local.n lit.1{U8 val}) local.n (call.down this (call.sub local.n lit.1{U8 val})))`, 1))
		f, e := lower.Lower(p)
		if e != api.OK {
			t.Fatalf("error %d", e)
		}
		_, want := meaning.Run(p, nil, nil, api.MaxFuel)
		if _, end := lower.Run(f, p, nil, nil, api.MaxFuel); end != want || (n > 100) != (end.Code == api.ErrDepth) {
			t.Errorf("%d deep it ends by %v, want %v", n, end, want)
		}
	}
}

// TestLimits is P20.1 for limits of the world: they end a run as fuel does.
func TestLimits(t *testing.T) {
	p := notation.Program(text)
	grow := functions(blocks(
		ssa.Block{End: ssa.End{Kind: ssa.Jump, To: []int{1}}},
		ssa.Block{Ins: []ssa.Ins{ins(ssa.Make, "main.C")}, End: ssa.End{Kind: ssa.Jump, To: []int{1}}}))
	if s, end := lower.Run(grow, p, nil, nil, api.MaxFuel); end != (meaning.End{Kind: meaning.Fuel, Actor: 1, Code: api.ErrFull}) || len(s.Cells) != api.MaxCells {
		t.Errorf("with too many objects it ends by %v", end)
	}
	double := functions(blocks(
		ssa.Block{Ins: []ssa.Ins{ins(ssa.Text, "ab")}, End: ssa.End{Kind: ssa.Jump, To: []int{1}}},
		ssa.Block{Ins: []ssa.Ins{{Op: ssa.Phi, Args: []int{2, 4}}, ins(ssa.Call, "add", 3, 3)}, End: ssa.End{Kind: ssa.Jump, To: []int{1}}}))
	if _, end := lower.Run(double, p, nil, nil, api.MaxFuel); end != (meaning.End{Kind: meaning.Fuel, Actor: 1, Code: api.ErrLarge}) {
		t.Errorf("with too long a text it ends by %v", end)
	}
}

// TestGreat has values with more parts than anybody can count: they come to an end, as all else.
func TestGreat(t *testing.T) {
	for name, c := range map[string]struct {
		last ssa.Ins
		want string
	}{
		"is":   {ins(ssa.Is, "", 302, 303), "rest true"},
		"set":  {ins(ssa.Set, "root", 1, 302), "stuck 190"},
		"fits": {ssa.Ins{Op: ssa.Fits, Type: notation.Type("(U8 val, U8 val)"), Args: []int{302}}, "rest false"},
		"send": {ins(ssa.Send, "x", 0, 302), "stuck 190"},
		"call": {ins(ssa.Call, "x", 302), "stuck 11"},
	} {
		l := []ssa.Ins{lit(number(1)), lit(number(1))}
		for i := range 300 {
			l = append(l, ins(ssa.Tuple, "", 2+i, 2+i))
		}
		l = append(l, c.last, ins(ssa.Set, "root", 1, 304))
		if got, _ := outcome(t, body("main.Main.create", 2, back(1), l...), 1000); got != c.want {
			t.Errorf("%s: %s, want %s", name, got, c.want)
		}
	}
}

// TestRuns is P20.1 for the ends of Run and Step that no function has.
func TestRuns(t *testing.T) {
	p := notation.Program(text)
	right := functions(body("main.Main.create", 2, back(1)))
	wrong := functions(body("main.Main.create", 2, back(7)))
	unlowered := meaning.End{Kind: meaning.Stuck, Actor: -1, Code: lower.ErrLower}
	begin, _ := world.New(p, []string{"x"})
	if s, end := lower.Run(wrong, p, []string{"x"}, nil, 100); end != unlowered || told(s) != told(begin.State()) {
		t.Errorf("wrong functions: it ends by %v", end)
	}
	if used, end, ok := lower.Step(wrong, begin, 0, 100); used != 0 || end != unlowered || !ok {
		t.Errorf("a step of wrong functions: %d, %v, %v", used, end, ok)
	}
	begin.Take(1)
	if used, end, ok := lower.Step(wrong, begin, 0, 100); used != 0 || end != unlowered || !ok {
		t.Errorf("a step without mail: %d, %v, %v", used, end, ok)
	}
	if used, end, ok := lower.Step(right, begin, 0, 100); used != 0 || end != (meaning.End{Kind: meaning.Rest, Actor: -1}) || ok {
		t.Errorf("no mail: %d, %v, %v", used, end, ok)
	}
	if used, end, ok := lower.Step(right, nil, 0, 100); used != 0 || end != (meaning.End{Kind: meaning.Stuck, Actor: -1, Code: api.ErrArg}) || ok {
		t.Errorf("no world: %d, %v, %v", used, end, ok)
	}
	if s, end := lower.Run(right, nil, nil, nil, 100); end != (meaning.End{Kind: meaning.Stuck, Actor: -1, Code: world.ErrMethod}) || told(s) != told(world.State{}) {
		t.Errorf("no program: it ends by %v", end)
	}
	if _, end := lower.Run(right, p, make([]string, 65), nil, 100); end != (meaning.End{Kind: meaning.Stuck, Actor: -1, Code: api.ErrSize}) {
		t.Errorf("65 arguments: it ends by %v", end)
	}
	for _, fuel := range []int{-5, 0} {
		if s, end := lower.Run(right, p, nil, nil, fuel); end != (meaning.End{Kind: meaning.Fuel, Actor: 1, Code: api.ErrSteps}) || len(s.Actors[1].Mail) != 1 {
			t.Errorf("the fuel %d: it ends by %v", fuel, end)
		}
	}
	circle := functions(blocks(ssa.Block{End: ssa.End{Kind: ssa.Jump, To: []int{1}}}, ssa.Block{End: ssa.End{Kind: ssa.Jump, To: []int{1}}}))
	w, _ := world.New(p, nil)
	if used, end, _ := lower.Step(circle, w, 0, 1<<40); used != api.MaxFuel || end.Code != api.ErrSteps {
		t.Errorf("a circle uses %d, and ends by %v", used, end)
	}
	// A program without functions: all bodies are the runtime's, which knows none.
	if _, end := lower.Run(ssa.Program{}, p, nil, nil, 100); end != (meaning.End{Kind: meaning.Stuck, Actor: 1, Code: world.ErrMethod}) {
		t.Errorf("no functions: it ends by %v", end)
	}
}
