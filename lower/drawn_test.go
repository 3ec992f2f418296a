package lower_test

import (
	"testing"

	"hackamore/api"
	"hackamore/draw"
	"hackamore/lower"
	"hackamore/meaning"
	"hackamore/notation"
	"hackamore/optimize"
	"hackamore/ssa"
	"hackamore/world"
)

// changed returns a program whose functions were changed, each by itself.
func changed(t *testing.T, p ssa.Program, change func(ssa.Func) (ssa.Func, api.Errno)) ssa.Program {
	t.Helper()
	q := ssa.Program{Entities: p.Entities}
	for _, f := range p.Funcs {
		g, e := change(f)
		if e != api.OK {
			t.Fatalf("%s: error %d", f.Name, e)
		}
		q.Funcs = append(q.Funcs, g)
	}
	return q
}

// dump returns the text of a state.
func dump(t *testing.T, s world.State) string {
	t.Helper()
	w, e := world.Load(s)
	if e != api.OK {
		t.Fatalf("Load: error %d", e)
	}
	return w.Dump()
}

// passed returns a program behind the passes of the highest level.
func passed(t *testing.T, p ssa.Program, passes []int) ssa.Program {
	t.Helper()
	q, _, e := optimize.Run(changed(t, p, ssa.Promote), passes)
	if e != api.OK {
		t.Fatalf("the passes have the error %d", e)
	}
	return q
}

// alike holds P20.2 for a program and a script; it reports whether both runs rest.
func alike(t *testing.T, p []api.Entity, args []string, script []int, name any, passes ...int) bool {
	t.Helper()
	f, e := lower.Lower(p)
	if e != api.OK {
		t.Fatalf("%v: Lower: error %d", name, e)
	}
	s, end := meaning.Run(p, args, script, api.MaxFuel)
	if end.Kind != meaning.Rest {
		return false
	}
	_, short := meaning.Run(p, args, script, 500)
	for k, q := range []ssa.Program{f, changed(t, f, ssa.Promote), changed(t, f, ssa.Clean), passed(t, f, passes)} {
		got, other := lower.Run(q, p, args, script, api.MaxFuel)
		if other.Kind == meaning.Fuel && (other.Code != api.ErrSteps || short.Kind != meaning.Rest) {
			return false
		}
		if other != end {
			text, _ := ssa.Print(q.Funcs)
			t.Fatalf("%v: %d: it ends by %v, where the interpreter rests\n%s", name, k, other, text)
		}
		if dump(t, s) != dump(t, got) || told(s.Trace) != told(got.Trace) || told(s.Output) != told(got.Output) || len(s.Actors) != len(got.Actors) {
			text, _ := ssa.Print(q.Funcs)
			t.Fatalf("%v: %d: the states differ:\n%s\n%s\n%s", name, k, dump(t, s), dump(t, got), text)
		}
	}
	return true
}

// TestDrawn is P20.2 for drawn programs that the checker takes.
func TestDrawn(t *testing.T) {
	rests := 0
	for seed := range uint64(400) {
		m := draw.New(seed)
		p := m.Core()
		var script []int
		for range m.Below(40) {
			script = append(script, m.Below(1000)-500)
		}
		if alike(t, p, []string{"a", "b"}, script, seed, optimize.Usual(3)...) {
			rests++
		}
	}
	if rests < 30 {
		t.Errorf("%d runs rest", rests)
	}
}

// TestWinding is P20.2 for drawn bodies that are left in many ways.
func TestWinding(t *testing.T) {
	rests := 0
	for seed := range uint64(1500) {
		if alike(t, draw.New(seed).Winding(), nil, nil, seed, optimize.Inline, optimize.Copies, optimize.Fold, optimize.Common, optimize.Dead) {
			rests++
		}
	}
	if rests < 700 {
		t.Errorf("%d runs rest", rests)
	}
}

// TestWays is P20.2 for ways out of an OpTry, of loops and of bodies.
func TestWays(t *testing.T) {
	for _, body := range []string{
		"(try (return lit.1{U32 val}) - (try (try (return lit.2{U32 val}) - error) - -))",
		"(try (try (return lit.1{U32 val}) - (return lit.2{U32 val})) - (call.say this lit.3{U32 val}))",
		"(seq (try error (return lit.1{U32 val}) (call.say this lit.3{U32 val})) lit.9{U32 val})",
		"(seq (try (try error - (call.say this lit.3{U32 val})) lit.4{U32 val} -) lit.9{U32 val})",
		"(while lit.true{Bool val} (try break - (call.say this lit.3{U32 val})) -)",
		"(seq (var.k{U32 val} lit.0{U32 val}) (while (call.lt local.k lit.3{U32 val}) (seq (assign.k (call.add local.k lit.1{U32 val})) (try continue - (call.say this local.k))) lit.7{U32 val}))",
		"(seq (var.k{U32 val} lit.0{U32 val}) (while (call.lt local.k lit.3{U32 val}) (seq (assign.k (call.add local.k lit.1{U32 val})) (try (return local.k) - continue)) lit.7{U32 val}))",
		"(seq (var.k{U32 val} lit.0{U32 val}) (while (seq (assign.k (call.add local.k lit.1{U32 val})) (if (is local.k lit.2{U32 val}) continue -) (if (is local.k lit.5{U32 val}) break -) lit.true{Bool val}) (call.say this local.k) -))",
		"(while lit.false{Bool val} lit.1{U32 val} (try (call.some this lit.8{U32 val}) lit.6{U32 val} -))",
		"(while lit.false{Bool val} lit.1{U32 val} -)",
		"(seq (var.k{U32 val}) (assign.k lit.1{U32 val}))",
		"(seq (var.k{U32 val} lit.1{U32 val}) (consume.k) (assign.k lit.2{U32 val}))",
		"(seq (assign.x lit.5{U32 val}) (assign.x (seq (consume.x) (assign.x lit.6{U32 val}) lit.7{U32 val})))",
		"(seq (if lit.false{Bool val} (var.k{U32 val} lit.1{U32 val}) -) (var.k{U32 val} lit.2{U32 val}) local.k)",
		"(seq (if lit.false{Bool val} local.none -) lit.2{U32 val})",
		"(match local.x (case.v{U32 val} (is local.v lit.2{U32 val}) lit.8{U32 val}) (case.w{Any tag} - local.v))",
		"(match local.x (case.v{None val} - lit.8{U32 val}))",
		"(call.get (new.create{main.C ref} (try (call.some this lit.9{U32 val}) lit.5{U32 val} -)))",
		"(try (call.get (new.create{main.C ref} lit.9{U32 val})) lit.5{U32 val} -)",
		"(call.go (if (is local.x lit.1{U32 val}) (new.create{main.C ref} lit.2{U32 val}) (new.create{main.A tag} lit.3{U32 val})) lit.4{U32 val})",
		"(call.go (if (is local.x lit.2{U32 val}) (new.create{main.C ref} lit.2{U32 val}) (new.create{main.A tag} lit.3{U32 val})) lit.4{U32 val})",
		"(item.1 (tuple (seq (assign.x lit.7{U32 val}) local.x) (seq (call.say this local.x) local.y)))",
		`(seq (let.l{Any tag} (new.create{"Array[main.C0 ref]" ref})) (call.push local.l lit.1{U32 val}) (call.say this (call.pop local.l)) (try (call.pop local.l) (call.size local.l) -))`,
		"(new.create{U32 val} lit.4{U32 val})",
		"(is (new.any{main.P val} lit.4{U32 val}) unit{main.P val})",
		"(if lit.false{Bool val} (seq (new.none{main.C ref}) error) lit.4{U32 val})",
		"(if lit.false{Bool val} (new.go{main.C ref} lit.4{U32 val}) (if lit.true{Bool val} lit.5{U32 val} (new.create{main.C ref})))",
		"(if lit.false{Bool val} (new.create{main.D ref}) (if lit.true{Bool val} lit.5{U32 val} (new.create{main.Nobody ref})))",
		"(seq (new.create{main.B tag} lit.4{U32 val}) (call.go (new.create{main.B tag} lit.4{U32 val}) lit.5{U32 val}))",
		"(try (try error - error) (try lit.3{U32 val} - (return lit.4{U32 val})) (call.say this lit.5{U32 val}))",
	} {
		p := draw.New(1).Winding()
		main := &p[len(p)-1]
		for i := range main.Methods {
			if main.Methods[i].Name == "wind" {
				main.Methods[i].Body = notation.Expr(body)
			}
		}
		if !alike(t, p, nil, nil, body, optimize.Inline, optimize.Copies, optimize.Fold, optimize.Common, optimize.Dead) {
			t.Errorf("%s: the run does not rest", body)
		}
	}
}
