// Package edit changes functions of the intermediate form in place. It has what the passes and the checker of their steps share; it
// does not ask whether a change may be done.
package edit

import (
	"iter"
	"slices"

	"hackamore/api"
	"hackamore/exprs"
	"hackamore/ssa"
	"hackamore/values"
)

// Clone returns a function that shares no memory with this one, so that it may be changed in place.
func Clone(f ssa.Func) ssa.Func {
	f.Params, f.Result = exprs.CloneTypes(f.Params), exprs.CloneType(f.Result)
	f.Blocks = slices.Clone(f.Blocks)
	for b, x := range f.Blocks {
		x.Ins = slices.Clone(x.Ins)
		x.End.Args, x.End.To = slices.Clone(x.End.Args), slices.Clone(x.End.To)
		f.Blocks[b] = x
	}
	for i := range Instructions(f) {
		i.Args, i.Type, i.Lit = slices.Clone(i.Args), exprs.CloneType(i.Type), values.Clone(i.Lit)
	}
	return f
}

// Instructions hands on all instructions of a function, also the Calls of tries, to be changed in place.
func Instructions(f ssa.Func) iter.Seq[*ssa.Ins] {
	return func(yield func(*ssa.Ins) bool) {
		for b := range f.Blocks {
			x := &f.Blocks[b]
			for at := range x.Ins {
				if !yield(&x.Ins[at]) {
					return
				}
			}
			if x.End.Kind == ssa.Try && !yield(&x.End.Call) {
				return
			}
		}
	}
}

// Args hands on all lists of Args of a function, those of ends, too, to be changed in place.
func Args(f ssa.Func) iter.Seq[[]int] {
	return func(yield func([]int) bool) {
		for i := range Instructions(f) {
			if !yield(i.Args) {
				return
			}
		}
		for _, x := range f.Blocks {
			if !yield(x.End.Args) {
				return
			}
		}
	}
}

// Size returns the number of instructions of a function, with the Calls of tries.
func Size(f ssa.Func) int {
	n := 0
	for range Instructions(f) {
		n++
	}
	return n
}

// Top returns the number above all values of a function.
func Top(f ssa.Func) int {
	n := len(f.Params)
	for i := range Instructions(f) {
		n = max(n, i.Result+1)
	}
	return n
}

// Find returns where the instruction stands that makes a value; false, if none in a block does.
func Find(f ssa.Func, v int) (block, at int, ok bool) {
	for b, x := range f.Blocks {
		at := slices.IndexFunc(x.Ins, func(i ssa.Ins) bool { return i.Result == v })
		if at >= 0 {
			return b, at, true
		}
	}
	return 0, 0, false
}

// Replace puts a value in the place of another one, in all Args.
func Replace(f ssa.Func, a, b int) {
	for l := range Args(f) {
		for k, v := range l {
			if v == a {
				l[k] = b
			}
		}
	}
}

// Take takes out the instruction that makes a value.
func Take(f ssa.Func, v int) {
	if b, at, ok := Find(f, v); ok {
		f.Blocks[b].Ins = slices.Delete(f.Blocks[b].Ins, at, at+1)
	}
}

// Alike reports whether two instructions are equal but for the Result.
func Alike(a, b ssa.Ins) bool {
	return a.Op == b.Op && slices.Equal(a.Args, b.Args) && a.Text == b.Text && a.Name == b.Name && a.N == b.N && a.Flag == b.Flag &&
		values.Same(a.Lit, b.Lit) && exprs.EqualType(a.Type, b.Type)
}

// Truth returns a Bool.
func Truth(is bool) api.Value {
	v := api.Value{Kind: api.ValBool}
	if is {
		v.Lo = 1
	}
	return v
}

// Pure reports whether an instruction has no effect, and always gives the same for the same.
func Pure(i ssa.Ins) bool {
	switch i.Op {
	case ssa.Const, ssa.Native, ssa.Tuple, ssa.Item, ssa.Is, ssa.Fits:
		return true
	}
	return false
}

// Droppable reports whether an instruction may go if nobody uses its Result.
func Droppable(i ssa.Ins) bool {
	switch i.Op {
	case ssa.Text, ssa.Phi, ssa.Load, ssa.Get, ssa.Make:
		return true
	}
	return Pure(i)
}

// Escapes reports whether the object that a make makes may be met elsewhere.
func Escapes(f ssa.Func, v int) bool {
	for i := range Instructions(f) {
		for k, a := range i.Args {
			kept := i.Op == ssa.Is || i.Op == ssa.Fits || (i.Op == ssa.Get || i.Op == ssa.Set) && k == 0
			if a == v && !kept {
				return true
			}
		}
	}
	for _, x := range f.Blocks {
		if slices.Contains(x.End.Args, v) {
			return true
		}
	}
	return false
}

// Ahead returns the value that a get has by what was done ahead in its block: what a set of this field of this value has written
// last, or a get has read.
func Ahead(x ssa.Block, at int) (int, bool) {
	get := x.Ins[at]
	for _, i := range slices.Backward(x.Ins[:at]) {
		if (i.Op != ssa.Get && i.Op != ssa.Set) || i.Text != get.Text || i.Args[0] != get.Args[0] {
			continue
		}
		if i.Op == ssa.Set {
			return i.Args[1], true
		}
		return i.Result, true
	}
	return 0, false
}
