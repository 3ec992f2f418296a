package optimize_test

import (
	"fmt"
	"slices"
	"testing"

	"hackamore/api"
	"hackamore/draw"
	"hackamore/edit"
	"hackamore/optimize"
	"hackamore/play"
	"hackamore/ssa"
	"hackamore/witness"
)

func told(v any) string { return fmt.Sprintf("%v", v) }

// possible hands on the steps of a pass that may be done in a program.
func possible(p ssa.Program, pass int) func(yield func(optimize.Step) bool) {
	return func(yield func(optimize.Step) bool) {
		for _, k := range play.Kinds(pass) {
			for s := range play.Steps(p, k) {
				if _, e := witness.Apply(p, s); e == api.OK && !yield(s) {
					return
				}
			}
		}
	}
}

// TestDrawn is P21.1 to P21.4 for drawn programs.
func TestDrawn(t *testing.T) {
	seen := map[int]int{}
	for seed := range uint64(400) {
		m := draw.New(seed)
		p := m.Funcs(draw.Room{Blocks: 7, Ins: 6, Partial: true, Variables: seed%3 == 0})
		var passes []int
		for range 1 + m.Below(4) {
			passes = append(passes, 1+m.Below(optimize.Passes))
		}
		q, steps, e := optimize.Run(p, passes)
		if e != api.OK {
			t.Fatalf("seed %d: error %d", seed, e)
		}
		if i, e := witness.Check(p, q, steps); e != api.OK {
			text, _ := ssa.Print(p.Funcs)
			t.Fatalf("seed %d: the passes %v: step %d, %+v, has the error %d in\n%s", seed, passes, i, steps[min(i, len(steps)-1)], e, text)
		}
		for _, s := range steps {
			seen[s.Kind]++
		}
		if !inOrder(steps, passes) {
			t.Fatalf("seed %d: the steps %v are not those of %v", seed, steps, passes)
		}
		if last := passes[len(passes)-1]; last != optimize.Inline {
			for s := range possible(q, last) {
				text, _ := ssa.Print(q.Funcs)
				t.Fatalf("seed %d: behind %v %+v may be done in\n%s", seed, passes, s, text)
			}
			again, more, e := optimize.Run(q, []int{last})
			if e != api.OK || len(more) > 0 || told(again) != told(q) {
				t.Fatalf("seed %d: %v: the last pass again does %d steps: error %d", seed, passes, len(more), e)
			}
		}
		if !slices.Contains(passes, optimize.Inline) && optimize.Size(q) > optimize.Size(p) {
			t.Fatalf("seed %d: behind %v it has the size %d, not %d", seed, passes, optimize.Size(q), optimize.Size(p))
		}
		for f := range p.Funcs {
			args := []api.Value{edit.Truth(true), edit.Truth(false), edit.Truth(true)}[:len(p.Funcs[f].Params)]
			a, b := play.Run(p, f, args, 400), play.Run(q, f, args, 400)
			direct := slices.ContainsFunc(steps, func(s optimize.Step) bool { return s.Kind == optimize.StepDirect })
			if !direct && !play.Alike(a, b) {
				t.Fatalf("seed %d: %v: %d does %v, and then %v", seed, passes, f, a, b)
			}
		}
	}
	for k := optimize.StepCopy; k <= optimize.StepCount; k++ {
		if seen[k] < 5 {
			t.Errorf("steps of the kind %d are done %d times", k, seen[k])
		}
	}
}

// inOrder reports whether the kinds of steps are those of passes, pass by pass.
func inOrder(steps []optimize.Step, passes []int) bool {
	for _, pass := range passes {
		for len(steps) > 0 && slices.Contains(play.Kinds(pass), steps[0].Kind) {
			steps = steps[1:]
		}
	}
	return len(steps) == 0
}
