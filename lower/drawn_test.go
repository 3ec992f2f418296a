package lower_test

import (
	"testing"

	"hackamore/api"
	"hackamore/draw"
	"hackamore/lower"
	"hackamore/meaning"
	"hackamore/optimize"
	"hackamore/ssa"
	"hackamore/world"
)

// changed returns a program whose functions were changed, each by itself.
func changed(t *testing.T, p ssa.Program, change func(ssa.Func) (ssa.Func, api.Errno)) ssa.Program {
	t.Helper()
	q := ssa.Program{Entities: p.Entities}
	for _, f := range p.Funcs {
		g, e := change(f)
		if e != api.OK {
			t.Fatalf("%s: error %d", f.Name, e)
		}
		q.Funcs = append(q.Funcs, g)
	}
	return q
}

// dump returns the text of a state.
func dump(t *testing.T, s world.State) string {
	t.Helper()
	w, e := world.Load(s)
	if e != api.OK {
		t.Fatalf("Load: error %d", e)
	}
	return w.Dump()
}

// passed returns a program behind the passes of the highest level.
func passed(t *testing.T, p ssa.Program, passes []int) ssa.Program {
	t.Helper()
	q, _, e := optimize.Run(changed(t, p, ssa.Promote), passes)
	if e != api.OK {
		t.Fatalf("the passes have the error %d", e)
	}
	return q
}

// alike holds P20.2 for a program and a script; it reports whether both runs rest.
func alike(t *testing.T, p []api.Entity, args []string, script []int, name any, passes ...int) bool {
	t.Helper()
	f, e := lower.Lower(p)
	if e != api.OK {
		t.Fatalf("%v: Lower: error %d", name, e)
	}
	s, end := meaning.Run(p, args, script, api.MaxFuel)
	if end.Kind != meaning.Rest {
		return false
	}
	_, short := meaning.Run(p, args, script, 500)
	for k, q := range []ssa.Program{f, changed(t, f, ssa.Promote), changed(t, f, ssa.Clean), passed(t, f, passes)} {
		got, other := lower.Run(q, p, args, script, api.MaxFuel)
		if other.Kind == meaning.Fuel && (other.Code != api.ErrSteps || short.Kind != meaning.Rest) {
			return false
		}
		if other != end {
			text, _ := ssa.Print(q.Funcs)
			t.Fatalf("%v: %d: it ends by %v, where the interpreter rests\n%s", name, k, other, text)
		}
		if dump(t, s) != dump(t, got) || told(s.Trace) != told(got.Trace) || told(s.Output) != told(got.Output) || len(s.Actors) != len(got.Actors) {
			text, _ := ssa.Print(q.Funcs)
			t.Fatalf("%v: %d: the states differ:\n%s\n%s\n%s", name, k, dump(t, s), dump(t, got), text)
		}
	}
	return true
}

// TestDrawn is P20.2 for drawn programs that the checker takes.
func TestDrawn(t *testing.T) {
	rests := 0
	for seed := range uint64(400) {
		m := draw.New(seed)
		p := m.Core()
		var script []int
		for range m.Below(40) {
			script = append(script, m.Below(1000)-500)
		}
		if alike(t, p, []string{"a", "b"}, script, seed, optimize.Usual(3)...) {
			rests++
		}
	}
	t.Log(rests)
	if rests < 30 {
		t.Errorf("%d runs rest", rests)
	}
}

// TestWinding is P20.2 for drawn bodies that are left in many ways.
func TestWinding(t *testing.T) {
	rests := 0
	for seed := range uint64(3000) {
		if alike(t, draw.New(seed).Winding(), nil, nil, seed, optimize.Inline, optimize.Copies, optimize.Fold, optimize.Common, optimize.Dead) {
			rests++
		}
	}
	t.Log(rests)
	if rests < 1000 {
		t.Errorf("%d runs rest", rests)
	}
}
