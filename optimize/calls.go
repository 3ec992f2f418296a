package optimize

import (
	"hackamore/api"
	"hackamore/edit"
	"hackamore/ssa"
)

// Limits of what is put in the place of a call, and of the function that is made so.
const (
	mostInlined  = 20
	mostMade     = 1000
	mostBlocks   = 400
	mostNumbered = 100000
)

// inline puts a function in the place of a direct of it.
func (w *work) inline() bool {
	for b, x := range w.Blocks {
		for at, i := range x.Ins {
			if i.Op != ssa.Direct {
				continue
			}
			if g, ok := w.inlined(i.Text); ok {
				w.do(Step{Kind: StepInline, A: i.Result})
				edit.Inline(w.Func, g, b, at)
				return true
			}
		}
	}
	return false
}

// inlined returns the function with a name, if it may be put in the place of a direct of it, and is small.
func (w *work) inlined(name string) (ssa.Func, bool) {
	k := w.index[name]
	g := w.Funcs[k]
	size := 0
	for i := range edit.Instructions(g) {
		if size++; size > mostInlined || i.Op == ssa.Direct || i.Op == ssa.Load || i.Op == ssa.Store {
			return ssa.Func{}, false
		}
	}
	returns := false
	for _, x := range g.Blocks {
		if x.End.Kind == ssa.Error {
			return ssa.Func{}, false
		}
		returns = returns || x.End.Kind == ssa.Return
	}
	fits := edit.Size(*w.Func)+size <= mostMade && len(w.Blocks)+len(g.Blocks)+1 <= mostBlocks && edit.Top(*w.Func)+size-1 <= mostNumbered
	return g, k != w.number && !g.Partial && returns && fits
}

// devirt calls the only function directly that a call can reach.
func (w *work) devirt() bool {
	before := len(w.steps)
	types := make([]api.Type, edit.Top(*w.Func))
	copy(types, w.Params)
	for i := range edit.Instructions(*w.Func) {
		types[i.Result] = i.Type
	}
	target := func(i ssa.Ins) (string, bool) {
		l, e := w.targets.Of(types[i.Args[0]], i.Text)
		if e != api.OK || len(l) != 1 {
			return "", false
		}
		return l[0], len(w.Funcs[w.index[l[0]]].Params) == len(i.Args)
	}
	for i := range edit.Instructions(*w.Func) {
		if i.Op != ssa.Call {
			continue
		}
		if name, ok := target(*i); ok {
			w.do(Step{Kind: StepDirect, A: i.Result, Text: name})
			i.Op, i.Text = ssa.Direct, name
		}
	}
	return len(w.steps) > before
}
