package meaning_test

import (
	"reflect"
	"strconv"
	"strings"
	"testing"

	"hackamore/api"
	"hackamore/meaning"
	"hackamore/notation"
	"hackamore/world"
)

// TestNil is P18.1 for a world that is nil.
func TestNil(t *testing.T) {
	want := told(meaning.Outcome{Kind: meaning.Wrong, Code: api.ErrArg})
	if o := meaning.Eval(nil, 1, object(2), notation.Expr("seq"), locals(), 10); told(o) != want {
		t.Errorf("Eval is %s", told(o))
	}
	if o := meaning.Call(nil, 1, object(2), "get", nil, 10); told(o) != want {
		t.Errorf("Call is %s", told(o))
	}
	used, end, ok := meaning.Step(nil, 0, 10)
	if used != 0 || end != (meaning.End{Kind: meaning.Stuck, Actor: -1, Code: api.ErrArg}) || ok {
		t.Errorf("Step is %d, %v, %v", used, end, ok)
	}
}

// TestFuel is P18.1 and P18.2 for the fuel of Eval and Call: from 0 to MaxFuel.
func TestFuel(t *testing.T) {
	x := notation.Expr("(call.twice this (seq lit.1{U32 val} local.x))") // uses 8
	for fuel := -3; fuel < 12; fuel++ {
		o := meaning.Eval(made(t), 1, object(2), x, locals(), fuel)
		want := "value 10, 8"
		if fuel < 8 {
			want = "empty 10, " + strconv.Itoa(max(fuel, 0))
		}
		if brief(o) != want {
			t.Errorf("with the fuel %d it is %s", fuel, brief(o))
		}
		o = meaning.Call(made(t), 1, object(2), "back", []api.Value{number(3)}, fuel)
		if want = "value 3, 3"; fuel < 3 {
			want = "empty 10, " + strconv.Itoa(max(fuel, 0))
		}
		if brief(o) != want {
			t.Errorf("with the fuel %d the call is %s", fuel, brief(o))
		}
	}
	spin := notation.Expr("(while lit.true{Bool val} (assign.x (call.add local.x lit.1{U32 val})) -)")
	for _, fuel := range []int{100000, 100001, 1 << 62} {
		if o := meaning.Eval(made(t), 1, object(2), spin, locals(), fuel); o.Kind != meaning.Empty || o.Used != 100000 {
			t.Errorf("with the fuel %d it is %s", fuel, brief(o))
		}
	}
	if o := meaning.Eval(made(t), 1, object(2), spin, locals(), -1<<63); brief(o) != "empty 10, 0" {
		t.Errorf("with less than no fuel it is %s", brief(o))
	}
}

// TestLocals is P18.1 for the local variables of Eval, behind each kind of outcome.
func TestLocals(t *testing.T) {
	l := []meaning.Local{{Name: "x", Value: number(1)}, {Name: "y", Value: number(2)}, {Name: "x", Value: number(3)}, {Name: "", Value: number(4)}, {Name: "y"}, {Name: "z", Value: object(99)}}
	for text, want := range map[string]string{
		"local.x":                              "x=3 =4 y=- z=#99",
		"local.y":                              "x=3 =4 y=- z=#99",
		"(assign.x lit.7{U32 val})":            "x=7 =4 y=- z=#99",
		"(seq (var.w{U32 val} local.x) break)": "x=3 =4 y=- z=#99 w=3",
		"(seq consume.x error)":                "x=- =4 y=- z=#99",
		"(seq consume.x (return))":             "x=- =4 y=- z=#99",
		"(seq consume.x local.x)":              "x=- =4 y=- z=#99",
		"(seq (let.y{U32 val} local.x) (while lit.true{Bool val} (assign.x local.y) -))": "x=3 =4 y=3 z=#99",
		"(call.own this local.x)":                                   "x=3 =4 y=- z=#99",
		"(match local.x (case.y{U32 val} lit.false{Bool val} seq))": "x=3 =4 y=3 z=#99",
	} {
		kept := told(l)
		o := meaning.Eval(made(t), 1, object(2), notation.Expr(text), l, 100)
		var got []string
		for _, x := range o.Locals {
			got = append(got, x.Name+"="+shown(x.Value))
		}
		if strings.Join(got, " ") != want || told(l) != kept {
			t.Errorf("%s leaves %v, not %s", text, got, want)
		}
	}
	if o := meaning.Eval(made(t), 1, object(2), notation.Expr("local.z"), l, 100); brief(o) != "value #99, 1" {
		t.Errorf("a local that is no value of the world is %s", brief(o))
	}
}

// TestMemory holds that outcomes share no memory with what was handed in, nor among themselves.
func TestMemory(t *testing.T) {
	l := []meaning.Local{{Name: "x", Value: tuple(number(1), tuple(number(2), number(3)))}}
	x := notation.Expr("(seq (var.y{U32 val} local.x) (tuple local.x local.y this))")
	w, this := made(t), tuple(number(4), number(5))
	kept := told([]any{l, this, x})
	o := meaning.Eval(w, 1, this, x, l, 100)
	want := told(o)
	again := func() { o = meaning.Eval(w, 1, this, x, l, 100) }
	o.Value.Kids[0].Kids[0].Lo, o.Value.Kids[2].Kids[0].Lo, o.Locals[0].Value.Kids[1].Kids[0].Lo = 7, 7, 7
	if o.Value.Kids[1].Kids[0].Lo != 1 || o.Locals[1].Value.Kids[1].Kids[0].Lo != 2 || told([]any{l, this, x}) != kept {
		t.Error("a change of the outcome changes something else")
	}
	if again(); told(o) != want {
		t.Errorf("again it is %s", told(o))
	}
	args := []api.Value{tuple(number(1), number(2))}
	called := meaning.Call(w, 1, object(2), "back", args, 100)
	called.Value.Kids[0].Lo = 9
	if args[0].Kids[0].Lo != 1 {
		t.Error("Call hands out its argument")
	}
}

// TestSizes is P18.1 for expressions that are too large, on both sides of the limits.
func TestSizes(t *testing.T) {
	chain := func(n int) api.Expr {
		x := api.Expr{Op: api.OpThis}
		for range n - 1 {
			x = api.Expr{Op: api.OpSeq, Kids: []api.Expr{x}}
		}
		return x
	}
	row := func(n int) api.Expr { return api.Expr{Op: api.OpSeq, Kids: make([]api.Expr, n-1)} }
	wide := func(n int) api.Expr {
		x := row(n)
		for i := range x.Kids {
			x.Kids[i] = api.Expr{Op: api.OpThis}
		}
		return x
	}
	l := []meaning.Local{{Name: "x", Value: number(1)}, {Name: "y", Value: number(2)}, {Name: "x", Value: number(3)}}
	behind := told([]meaning.Local{{Name: "y", Value: number(2)}, {Name: "x", Value: number(3)}})
	for _, c := range []struct {
		x    api.Expr
		want string
	}{
		{chain(100), "value #2, 100"}, {chain(101), "wrong 2, 0"}, {wide(4000), "value #2, 4000"}, {wide(4001), "wrong 2, 0"}, {row(4001), "wrong 2, 0"},
	} {
		for _, fuel := range []int{10000, 4000} {
			if o := meaning.Eval(made(t), 1, object(2), c.x, l, fuel); brief(o) != c.want || told(o.Locals) != behind {
				t.Errorf("it is %s with %s, not %s", brief(o), told(o.Locals), c.want)
			}
		}
	}
	if o := meaning.Eval(made(t), 1, object(2), chain(101), l, 0); brief(o) != "wrong 2, 0" || told(o.Locals) != behind {
		t.Errorf("without fuel it is %s with %s", brief(o), told(o.Locals))
	}
}

// TestDepth is P18.1 for bodies that are run in others: in 100 of them, but not in 101.
func TestDepth(t *testing.T) {
	for n, want := range map[uint64]string{0: "value 0", 99: "value 99", 100: "value 100", 101: "empty 9", 5000: "empty 9"} {
		o := meaning.Eval(made(t), 1, object(2), notation.Expr("(call.deep this local.x)"), []meaning.Local{{Name: "x", Value: number(n)}}, 100000)
		if got, _, _ := strings.Cut(brief(o), ","); got != want {
			t.Errorf("%d: Eval is %s", n, got)
		}
		o = meaning.Call(made(t), 1, object(2), "deep", []api.Value{number(n)}, 100000)
		if got, _, _ := strings.Cut(brief(o), ","); got != want || len(o.Locals) > 0 {
			t.Errorf("%d: Call is %s", n, got)
		}
	}
	// bodies that were left do not count
	x := notation.Expr("(while (call.lt local.x lit.300{U32 val}) (seq (try (call.fails this) unit{None val} -) (call.deep this lit.90{U32 val}) (assign.x (call.add local.x lit.1{U32 val}))) -)")
	if o := meaning.Eval(made(t), 1, object(2), x, []meaning.Local{{Name: "x", Value: number(250)}}, 100000); o.Kind != meaning.Value {
		t.Errorf("it is %s", brief(o))
	}
}

// TestLimits is P18.1 for limits that the world tells: the outcome is Empty with its code; num's ErrLarge is none.
func TestLimits(t *testing.T) {
	w := made(t)
	s := w.State()
	s.Cells = append(s.Cells, make([]api.Cell, 20000-len(s.Cells))...)
	s.Cells[5] = api.Cell{Type: "Array[x]", Fields: make([]api.Value, 10000)}
	for i := range s.Cells[5].Fields {
		s.Cells[5].Fields[i] = number(1)
	}
	for i := range 102 {
		s.Cells[6+i] = api.Cell{Type: "main.C", Fields: []api.Value{number(1), object(uint64(7 + i))}}
	}
	s.Cells[108] = api.Cell{Type: "String", Bytes: strings.Repeat("x", 20000)}
	s.Cells[109] = api.Cell{Type: "String"}
	for len(s.Actors) < 64 {
		s.Actors = append(s.Actors, world.Actor{})
	}
	mail := s
	mail.Actors = append([]world.Actor{}, s.Actors...)
	for range 2000 {
		mail.Actors[2].Mail = append(mail.Actors[2].Mail, api.Message{From: -1, To: 2})
	}
	locals := []meaning.Local{{Name: "l", Value: object(5)}, {Name: "d", Value: object(6)}, {Name: "s", Value: object(108)}, {Name: "e", Value: object(109)}, {Name: "a", Value: actor(2)}}
	for _, c := range []struct {
		s       world.State
		x, want string
	}{
		{s, "lit.a{String val}", "empty 8, 1"}, {s, "(new.plain{main.C ref})", "empty 8, 1"}, {s, `(new.create{"Array[x]" ref})`, "empty 8, 1"}, {s, "(new.create{main.A tag} lit.1{U32 val})", "empty 8, 2"},
		{s, "(call.push local.l local.d)", "empty 8, 3"}, {s, "(call.add local.s local.s)", "empty 16, 3"}, {s, "(call.string unit{None val})", "empty 8, 2"}, {s, "(call.add local.e local.e)", "empty 8, 3"},
		{s, "(call.once local.a local.d)", "empty 9, 3"}, {s, "(call.once local.a local.s)", "empty 16, 3"}, {mail, "(call.once local.a local.e)", "empty 8, 3"},
		{s, "lit." + strings.Repeat("1", 401) + "{U32 val}", "wrong 16, 1"},
		{s, "(try lit.a{String val} unit{None val} (set.n this lit.1{U32 val}))", "empty 8, 2"},
	} {
		w, e := world.Load(c.s)
		if e != api.OK {
			t.Fatalf("Load: error %d", e)
		}
		if o := meaning.Eval(w, 1, object(2), notation.Expr(c.x), locals, 100); brief(o) != c.want {
			t.Errorf("%s is %s, not %s", c.x, brief(o), c.want)
		}
		if told(w.State()) != told(c.s) {
			t.Errorf("%s changes the state", c.x)
		}
	}
	if o := meaning.Eval(made(t), 1, object(2), api.Expr{Op: api.OpLit, Text: strings.Repeat("x", 20001), Types: []api.Type{notation.Type("String val")}}, nil, 9); brief(o) != "empty 16, 1" {
		t.Errorf("a long text is %s", brief(o))
	}
	for _, n := range []int{-1, 3} { // an actor that is not there
		if o := meaning.Eval(made(t), n, object(2), notation.Expr("lit.a{String val}"), nil, 9); brief(o) != "wrong 5, 1" {
			t.Errorf("for the actor %d it is %s", n, brief(o))
		}
		if o := meaning.Eval(made(t), n, actor(2), notation.Expr("(get.n this)"), nil, 9); brief(o) != "wrong 13, 2" {
			t.Errorf("for the actor %d a field is %s", n, brief(o))
		}
	}
	if o := meaning.Eval(made(t), 0, actor(0), notation.Expr("(get.n this)"), nil, 9); brief(o) != "wrong 191, 2" {
		t.Errorf("a field that the actor 0 has not is %s", brief(o))
	}
	if o := meaning.Eval(made(t), -1, actor(1<<64-1), notation.Expr("(get.n this)"), nil, 9); brief(o) != "wrong 13, 2" {
		t.Errorf("a field of no actor is %s", brief(o))
	}
}

// TestEffects is P18.1 for what operations leave in the world.
func TestEffects(t *testing.T) {
	for text, want := range map[string]func(s *world.State){
		"(set.n this lit.8{U32 val})": func(s *world.State) { s.Cells[2].Fields[0] = number(8) },
		"(new.create{main.C ref} lit.8{U32 val})": func(s *world.State) {
			s.Cells = append(s.Cells, api.Cell{Type: "main.C", Owner: 1, Fields: []api.Value{number(8), object(5)}})
		},
		"(new.failing{main.C ref})": func(s *world.State) {
			s.Cells = append(s.Cells, api.Cell{Type: "main.C", Owner: 1, Fields: []api.Value{number(1), {}}})
		},
		"lit.hi{String val}":                func(s *world.State) { s.Cells = append(s.Cells, api.Cell{Type: "String", Owner: 1, Bytes: "hi"}) },
		`(new.create{"Array[U8 val]" ref})`: func(s *world.State) { s.Cells = append(s.Cells, api.Cell{Type: "Array[U8 val]", Owner: 1}) },
		"(call.once local.a lit.8{U32 val})": func(s *world.State) {
			s.Actors[2].Mail = []api.Message{{From: 1, To: 2, Name: "once", Args: []api.Value{number(8)}}}
			s.Trace = []api.Send{{From: 1, To: 2, Name: "once", Args: []string{"U32 8"}}}
		},
		"(new.create{main.A tag} lit.8{U32 val})": func(s *world.State) {
			s.Actors = append(s.Actors, world.Actor{Type: "main.A", Fields: make([]api.Value, 1), Mail: []api.Message{{From: 1, To: 3, Name: "create", Args: []api.Value{number(8)}}}})
			s.Trace = []api.Send{{From: 1, To: 3, Name: "create", Args: []string{"U32 8"}}}
		},
		"(call.push local.l lit.8{U32 val})": func(s *world.State) { s.Cells[3].Fields = append(s.Cells[3].Fields, number(8)) },
		"(call.once local.a)":                func(s *world.State) {},
		"(new.create{main.A tag})":           func(s *world.State) {},
		"(new.create{main.C ref})":           func(s *world.State) {},
	} {
		w := made(t)
		s := w.State()
		meaning.Eval(w, 1, object(2), notation.Expr(text), locals(), 100)
		want(&s)
		if told(w.State()) != told(s) {
			t.Errorf("%s leaves %s", text, told(w.State()))
		}
	}
}

// TestCall is P18.1 for Call.
func TestCall(t *testing.T) {
	for _, c := range []struct {
		v    api.Value
		name string
		args []api.Value
		want string
	}{
		{object(2), "get", nil, "value 5, 2"}, {object(2), "twice", []api.Value{number(4)}, "value 8, 3"}, {object(2), "fails", nil, "error, 1"}, {object(2), "lies", nil, "wrong 14, 1"}, {object(2), "breaks", nil, "wrong 2, 1"}, {object(2), "nothing", nil, "value None, 2"},
		{object(2), "get", []api.Value{number(4)}, "wrong 4, 0"}, {object(2), "zzz", nil, "wrong 191, 0"}, {object(2), "create", nil, "wrong 191, 0"}, {object(2), "late", []api.Value{number(4)}, "wrong 11, 0"},
		{actor(2), "once", []api.Value{number(4)}, "value None, 0"}, {actor(2), "read", nil, "wrong 13, 2"}, {actor(1), "read", []api.Value{actor(1)}, "wrong 192, 2"}, {actor(0), "print", []api.Value{object(4)}, "value None, 0"},
		{number(4), "add", []api.Value{number(5)}, "value 9, 0"}, {number(4), "add_partial", []api.Value{number(1<<32 - 1)}, "error, 0"}, {number(4), "zzz", nil, "wrong 5, 0"}, {number(4), "string", nil, "value #5, 0"}, {unit("main.P"), "seven", nil, "value 7, 1"}, {unit("main.X"), "seven", nil, "wrong 190, 0"},
		{tuple(number(1), number(2)), "size", nil, "wrong 11, 0"}, {api.Value{}, "size", nil, "wrong 11, 0"}, {object(99), "size", nil, "wrong 11, 0"}, {object(1 << 63), "size", nil, "wrong 11, 0"}, {object(2), "put", []api.Value{object(99)}, "wrong 190, 3"},
	} {
		o := meaning.Call(made(t), 1, c.v, c.name, c.args, 100)
		if brief(o) != c.want || len(o.Locals) > 0 {
			t.Errorf("%s of %s is %s, not %s", c.name, shown(c.v), brief(o), c.want)
		}
	}
}

// TestStep is P18.1 and P18.5 for Step: each kind of message, and each end.
func TestStep(t *testing.T) {
	for _, c := range []struct {
		to   int
		name string
		args []api.Value
		fuel int
		used int
		end  meaning.End
	}{
		{2, "once", []api.Value{number(8)}, 100, 4, meaning.End{Kind: meaning.Rest, Actor: -1}},
		{2, "create", []api.Value{number(8)}, 100, 4, meaning.End{Kind: meaning.Rest, Actor: -1}},
		{2, "far", []api.Value{number(8)}, 100, 4, meaning.End{Kind: meaning.Rest, Actor: -1}},
		{2, "once", []api.Value{number(8)}, 4, 4, meaning.End{Kind: meaning.Rest, Actor: -1}},
		{2, "once", []api.Value{number(8)}, 3, 3, meaning.End{Kind: meaning.Fuel, Actor: 2, Code: api.ErrSteps}},
		{2, "once", []api.Value{number(8)}, 1, 1, meaning.End{Kind: meaning.Fuel, Actor: 2, Code: api.ErrSteps}},
		{2, "once", []api.Value{number(8)}, 0, 0, meaning.End{Kind: meaning.Fuel, Actor: 2, Code: api.ErrSteps}},
		{2, "once", []api.Value{number(8)}, -5, 0, meaning.End{Kind: meaning.Fuel, Actor: 2, Code: api.ErrSteps}},
		{2, "once", nil, 100, 1, meaning.End{Kind: meaning.Stuck, Actor: 2, Code: api.ErrSize}},
		{2, "read", nil, 100, 1, meaning.End{Kind: meaning.Stuck, Actor: 2, Code: world.ErrMethod}},
		{2, "zzz", nil, 100, 1, meaning.End{Kind: meaning.Stuck, Actor: 2, Code: world.ErrMethod}},
		{2, "bare", nil, 100, 1, meaning.End{Kind: meaning.Stuck, Actor: 2, Code: world.ErrMethod}},
		{2, "fails", nil, 100, 2, meaning.End{Kind: meaning.Stuck, Actor: 2, Code: api.ErrState}},
		{2, "failing_too", nil, 100, 2, meaning.End{Kind: meaning.Stuck, Actor: 2, Code: api.ErrState}},
		{2, "breaks", nil, 100, 2, meaning.End{Kind: meaning.Stuck, Actor: 2, Code: api.ErrForm}},
		{2, "spins", nil, 100, 100, meaning.End{Kind: meaning.Fuel, Actor: 2, Code: api.ErrSteps}},
		{2, "spins", nil, 1 << 40, 100000, meaning.End{Kind: meaning.Fuel, Actor: 2, Code: api.ErrSteps}},
		{2, "dives", nil, 1000, 203, meaning.End{Kind: meaning.Fuel, Actor: 2, Code: api.ErrDepth}},
		{0, "print", []api.Value{object(4)}, 100, 1, meaning.End{Kind: meaning.Rest, Actor: -1}},
		{0, "print", []api.Value{number(8)}, 100, 1, meaning.End{Kind: meaning.Stuck, Actor: 0, Code: api.ErrType}},
		{0, "print", nil, 100, 1, meaning.End{Kind: meaning.Stuck, Actor: 0, Code: api.ErrSize}},
		{0, "zzz", nil, 100, 1, meaning.End{Kind: meaning.Stuck, Actor: 0, Code: world.ErrMethod}},
	} {
		w := made(t)
		for range 2 {
			if e := w.Send(api.Message{From: 1, To: c.to, Name: c.name, Args: c.args}); e != api.OK {
				t.Fatalf("Send: error %d", e)
			}
		}
		before := w.State()
		used, end, ok := meaning.Step(w, 7, c.fuel)
		if used != c.used || end != c.end || !ok {
			t.Errorf("%s with the fuel %d uses %d, and ends by %v, %v", c.name, c.fuel, used, end, ok)
		}
		mail := before.Actors[c.to].Mail[1:]
		if c.fuel <= 0 {
			mail = before.Actors[c.to].Mail
		}
		if got := w.State().Actors[c.to].Mail; told(got) != told(mail) {
			t.Errorf("%s leaves the mail %s", c.name, told(got))
		}
	}
	w := made(t)
	for _, fuel := range []int{0, 5} {
		if used, end, ok := meaning.Step(w, 3, fuel); used != 0 || end != (meaning.End{Kind: meaning.Rest, Actor: -1}) || ok {
			t.Errorf("a step without mail uses %d, and ends by %v, %v", used, end, ok)
		}
	}
	w.Send(api.Message{From: -1, To: 2, Name: "go", Args: []api.Value{number(3)}})
	if meaning.Step(w, 0, 100); w.State().Output != nil || w.State().Actors[2].Mail[0].Args[0].Lo != 4 || w.State().Actors[2].Fields[0].Lo != 3 || w.State().Actors[2].Mail[0].From != 2 {
		t.Errorf("a step leaves %s", told(w.State().Actors))
	}
}

// TestStepChoice is P18.1 for which actor takes a message.
func TestStepChoice(t *testing.T) {
	for choice, want := range map[int]uint64{0: 1, 1: 2, 2: 3, 3: 1, -1: 3, 301: 2} {
		w := made(t)
		w.Spawn("main.A")
		w.Take(1)
		for n := 1; n < 4; n++ {
			w.Send(api.Message{From: -1, To: n, Name: "zzz"})
		}
		if _, end, _ := meaning.Step(w, choice, 9); uint64(end.Actor) != want {
			t.Errorf("%d chooses %d", choice, end.Actor)
		}
	}
}

// talk is a program whose actors print what they are told, and tell others.
const talk = `
	actor tag main.W
	var out: Out tag
	var name: String val
	new tag create(out: Out tag; name: String val) => (seq (set.out this local.out) (set.name this local.name))
	be tag say(n: U32 val) => (if (call.gt local.n lit.0{U32 val}) (seq (call.print (get.out this) (call.add (get.name this) (call.string local.n))) (call.say this (call.sub local.n lit.1{U32 val}))) -)
`

// talking returns a program whose main actor makes two that print, each of them so many lines.
func talking(n string) []api.Entity {
	p := program(talk)
	for i := range p {
		if p[i].Name == "main.Main" {
			p[i].Methods[0] = notation.Method("new tag create(env: Env val) => (seq (call.say (new.create{main.W tag} (get.out local.env) lit.a{String val}) lit." + n + "{U32 val}) (call.say (new.create{main.W tag} (get.out local.env) lit.b{String val}) lit." + n + "{U32 val}) (call.print (get.out local.env) (call.string (call.size (get.args local.env)))))")
		}
	}
	return p
}

// TestRun is P18.1, P18.2 and P18.3 for Run.
func TestRun(t *testing.T) {
	rest := meaning.End{Kind: meaning.Rest, Actor: -1}
	for script, want := range map[string]string{
		"":                    "2 a2 a1 b2 b1",
		"0 0 1 1 0 0":         "2 b2 a2 a1 b1",
		"0 -1 -1 -1 -1 -1 -1": "2 b2 b1 a2 a1",
	} {
		var l []int
		for _, f := range strings.Fields(script) {
			n, _ := strconv.Atoi(f)
			l = append(l, n)
		}
		s, end := meaning.Run(talking("2"), []string{"x", "y"}, l, 10000)
		if got := strings.Join(s.Output, " "); end != rest || got != want {
			t.Errorf("the script %s prints %s, and ends by %v", script, got, end)
		}
		if e := world.Check(s); e != api.OK {
			t.Errorf("the state has the error %d", e)
		}
		again, _ := meaning.Run(talking("2"), []string{"x", "y"}, append(l, make([]int, 50)...), 10000)
		if told(s) != told(again) {
			t.Errorf("the script %s with zeros behind it is another one", script)
		}
		stepped(t, talking("2"), l, s)
	}
	s, end := meaning.Run(talking("0"), nil, []int{5, -7}, 0)
	if begin, _ := world.New(talking("0"), nil); end != (meaning.End{Kind: meaning.Fuel, Actor: 1, Code: api.ErrSteps}) || told(s) != told(begin.State()) {
		t.Errorf("without fuel it ends by %v", end)
	}
	for name, c := range map[string]struct {
		p    []api.Entity
		args []string
		e    api.Errno
	}{
		"no program":     {nil, nil, world.ErrMethod},
		"too many args":  {program(""), make([]string, 65), api.ErrSize},
		"a wrong one":    {append(program(""), program("")...), nil, api.ErrTwice},
		"a wrong method": {append(program("")[1:], program("")[1]), nil, api.ErrTwice},
	} {
		s, end := meaning.Run(c.p, c.args, nil, 100)
		if told(s) != told(world.State{}) || end != (meaning.End{Kind: meaning.Stuck, Actor: -1, Code: c.e}) {
			t.Errorf("%s: it ends by %v", name, end)
		}
	}
}

// stepped compares a run with its steps, one by one.
func stepped(t *testing.T, p []api.Entity, script []int, want world.State) {
	t.Helper()
	w, _ := world.New(p, []string{"x", "y"})
	for i := 0; ; i++ {
		choice := 0
		if i < len(script) {
			choice = script[i]
		}
		if _, end, ok := meaning.Step(w, choice, 10000); !ok {
			break
		} else if end.Kind != meaning.Rest {
			t.Fatalf("a step ends by %v", end)
		}
	}
	if told(w.State()) != told(want) {
		t.Errorf("steps have another end than the run")
	}
}

// TestStuck is P18.1 for runs that end at an error: the state is that of the end.
func TestStuck(t *testing.T) {
	p := talking("1")
	p[len(p)-1].Methods[1] = notation.Method("be tag say(n: U32 val) => (seq (call.print (get.out this) (get.name this)) (get.zzz this))")
	s, end := meaning.Run(p, nil, []int{0, 2, 2}, 1000)
	if end != (meaning.End{Kind: meaning.Stuck, Actor: 3, Code: world.ErrMethod}) || len(s.Actors[0].Mail) != 2 || len(s.Actors) != 4 {
		t.Errorf("it ends by %v, with %s", end, told(s.Actors))
	}
}

// TestGreat has values with more parts than anybody can count: they come to an end, as all else.
func TestGreat(t *testing.T) {
	grow := "(while (call.lt local.n lit.150{U32 val}) (seq (assign.x (tuple local.x local.x)) (assign.y (tuple local.y local.y)) (assign.n (call.add local.n lit.1{U32 val}))) -)"
	l := []meaning.Local{{Name: "n", Value: number(0)}, {Name: "x", Value: number(1)}, {Name: "y", Value: number(1)}, {Name: "a", Value: actor(2)}}
	for text, want := range map[string]string{
		"(is local.x local.y)":        "value true",
		"(call.once local.a local.x)": "wrong 190",
		"(set.n this local.x)":        "wrong 190",
		"(match local.x (case{(U32 val, U32 val)} - lit.1{U32 val}))": "value None",
	} {
		o := meaning.Eval(made(t), 1, object(2), notation.Expr("(seq "+grow+" "+text+")"), l, 100000)
		if got, _, _ := strings.Cut(brief(o), ","); got != want {
			t.Errorf("%s is %s", text, got)
		}
		if reflect.DeepEqual(o.Locals[0].Value, number(0)) || o.Locals[1].Value.Kind != api.ValTuple {
			t.Errorf("%s: the locals are others", text)
		}
	}
}
