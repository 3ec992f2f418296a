package witness_test

import (
	"slices"
	"testing"

	"hackamore/api"
	"hackamore/draw"
	"hackamore/edit"
	"hackamore/optimize"
	"hackamore/play"
	"hackamore/ssa"
	"hackamore/witness"
)

// TestKeeps is P22.2, P22.3 and P22.4: each step that may be done leads to a right program, which does the same, and has fewer of
// something.
func TestKeeps(t *testing.T) {
	done := map[int]int{}
	for seed := range uint64(90) {
		p := draw.New(seed).Funcs(draw.Room{Blocks: 6, Ins: 6, Partial: true, Variables: seed%4 == 0})
		for kind := optimize.StepCopy; kind <= optimize.StepCount; kind++ {
			for s := range play.Steps(p, kind) {
				q, e := witness.Apply(p, s)
				if e == witness.ErrRule {
					continue
				}
				if e != api.OK {
					t.Fatalf("seed %d: %+v: error %d", seed, s, e)
				}
				done[kind]++
				if at, e := ssa.Check(q); e != api.OK {
					t.Fatalf("seed %d: behind %+v is the error %d at %v", seed, s, e, at)
				}
				if kind != optimize.StepDirect {
					same(t, seed, p, q, s)
				}
				fewer(t, seed, p.Funcs[s.Func], q.Funcs[s.Func], s)
			}
		}
	}
	for k := optimize.StepCopy; k <= optimize.StepCount; k++ {
		if done[k] < 4 {
			t.Errorf("steps of the kind %d may be done %d times", k, done[k])
		}
	}
}

// same holds that the function of a step does the same behind it.
func same(t *testing.T, seed uint64, p, q ssa.Program, s optimize.Step) {
	t.Helper()
	for k := range uint64(3) {
		args := []api.Value{truth(k % 2), number(k), truth(k / 2)}[:len(p.Funcs[s.Func].Params)]
		a, b := play.Run(p, s.Func, args, 100), play.Run(q, s.Func, args, 100)
		if !play.Alike(a, b) {
			text, _ := ssa.Print([]ssa.Func{p.Funcs[s.Func], q.Funcs[s.Func]})
			t.Fatalf("seed %d: behind %+v it does %v, not %v:\n%s", seed, s, b, a, text)
		}
	}
}

// fewer is P22.4.
func fewer(t *testing.T, seed uint64, f, g ssa.Func, s optimize.Step) {
	t.Helper()
	switch s.Kind {
	case optimize.StepInline, optimize.StepDirect, optimize.StepStack:
		return
	}
	uses := func(f ssa.Func) int {
		n := 0
		for l := range edit.Args(f) {
			for _, v := range l {
				if v == s.A {
					n++
				}
			}
		}
		return n
	}
	others := func(f ssa.Func) int {
		n := 0
		for i := range edit.Instructions(f) {
			if i.Op != ssa.Const {
				n++
			}
		}
		return n
	}
	unused := s.Kind == optimize.StepCopy && uses(f) == 0
	turned := s.Kind == optimize.StepBranch // it may have as much as ahead, but for an edge
	if edit.Size(g) >= edit.Size(f) && len(g.Blocks) >= len(f.Blocks) && uses(g) >= uses(f) && others(g) >= others(f) && !unused && !turned {
		t.Fatalf("seed %d: behind %+v nothing is fewer", seed, s)
	}
}

// TestChanged holds that a witness of passes is taken, and that one with a step that was changed is taken only if the changed step may
// be done, and leads to the same.
func TestChanged(t *testing.T) {
	refused := 0
	for seed := range uint64(150) {
		m := draw.New(seed)
		p := m.Funcs(draw.Room{Blocks: 6, Ins: 6, Partial: true})
		q, l, e := optimize.Run(p, optimize.Usual(3))
		if e != api.OK {
			t.Fatalf("seed %d: Run: error %d", seed, e)
		}
		if at, e := witness.Check(p, q, l); e != api.OK {
			t.Fatalf("seed %d: error %d at %d", seed, e, at)
		}
		if len(l) == 0 {
			continue
		}
		k := m.Below(len(l))
		part := p
		for _, s := range l[:k] {
			if part, e = witness.Apply(part, s); e != api.OK {
				t.Fatalf("seed %d: %+v: error %d", seed, s, e)
			}
		}
		if at, e := witness.Check(p, part, l[:k]); e != api.OK {
			t.Fatalf("seed %d: the first %d steps: error %d at %d", seed, k, e, at)
		}
		other := slices.Clone(l)
		switch s := &other[k]; m.Below(5) {
		case 0:
			s.A++
		case 1:
			s.B++
		case 2:
			s.Kind = 1 + m.Below(optimize.StepCount)
		case 3:
			s.Func = m.Below(len(p.Funcs) + 1)
		default:
			s.Text += "x"
		}
		_, rule := witness.Apply(part, other[k])
		at, e := witness.Check(p, q, other)
		if rule != api.OK && (e != rule || at != k) || rule == api.OK && e != api.OK && at <= k && at < len(l) {
			t.Fatalf("seed %d: with %+v at %d: error %d at %d, want %d", seed, other[k], k, e, at, rule)
		}
		if e != api.OK {
			refused++
		}
		if _, e := witness.Check(q, p, nil); (e == api.OK) != slices.EqualFunc(p.Funcs, q.Funcs, ssa.Equal) {
			t.Fatalf("seed %d: no steps lead back: error %d", seed, e)
		}
	}
	if refused < 50 {
		t.Errorf("%d changed witnesses are refused", refused)
	}
}
