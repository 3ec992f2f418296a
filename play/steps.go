package play

import (
	"iter"

	"hackamore/api"
	"hackamore/edit"
	"hackamore/num"
	"hackamore/optimize"
	"hackamore/ssa"
)

// Kinds returns the kinds of steps of a pass.
func Kinds(pass int) []int {
	return [][]int{
		optimize.Copies:  {optimize.StepCopy, optimize.StepDrop},
		optimize.Fold:    {optimize.StepFold, optimize.StepBranch},
		optimize.Common:  {optimize.StepCommon},
		optimize.Dead:    {optimize.StepDrop, optimize.StepJoin},
		optimize.Inline:  {optimize.StepInline},
		optimize.Devirt:  {optimize.StepDirect},
		optimize.Escape:  {optimize.StepStack},
		optimize.Forward: {optimize.StepField},
	}[pass]
}

// Steps hands on steps of a kind in a program, among them all that may be done, if numbers are those of U8 below 16.
func Steps(p ssa.Program, kind int) iter.Seq[optimize.Step] {
	return func(yield func(optimize.Step) bool) {
		for i, f := range p.Funcs {
			for _, s := range steps(p, f, kind) {
				s.Kind, s.Func = kind, i
				if !yield(s) {
					return
				}
			}
		}
	}
}

func steps(p ssa.Program, f ssa.Func, kind int) []optimize.Step {
	var l []optimize.Step
	top := edit.Top(f)
	switch kind {
	case optimize.StepCopy, optimize.StepCommon, optimize.StepField:
		for i := range edit.Instructions(f) {
			if mayBe(kind, i.Op) {
				for b := range top {
					l = append(l, optimize.Step{A: i.Result, B: b})
				}
			}
		}
	case optimize.StepFold:
		for i := range edit.Instructions(f) {
			if i.Op == ssa.Native || i.Op == ssa.Is {
				l = append(l, folds(i.Result)...)
			}
		}
	case optimize.StepBranch:
		for a := range f.Blocks {
			l = append(l, optimize.Step{A: a}, optimize.Step{A: a, B: 1})
		}
	case optimize.StepDirect:
		for a := range top {
			for _, g := range p.Funcs {
				l = append(l, optimize.Step{A: a, Text: g.Name})
			}
		}
	default:
		for a := range max(top, len(f.Blocks)) {
			l = append(l, optimize.Step{A: a})
		}
	}
	return l
}

// mayBe reports whether a step with two values may be done for what an operation makes.
func mayBe(kind, op int) bool {
	switch kind {
	case optimize.StepCopy:
		return op == ssa.Phi || op == ssa.Item
	case optimize.StepField:
		return op == ssa.Get
	}
	return op == ssa.Phi || edit.Pure(ssa.Ins{Op: op})
}

// folds returns steps that fold a value.
func folds(a int) []optimize.Step {
	l := []optimize.Step{{A: a, Lit: api.Value{Kind: api.ValBool}}, {A: a, Lit: api.Value{Kind: api.ValBool, Lo: 1}}}
	for n := range uint64(16) {
		v, _ := num.Of("U8", n)
		l = append(l, optimize.Step{A: a, Lit: v})
	}
	return l
}
