package ssa

import (
	"slices"

	"hackamore/api"
	"hackamore/exprs"
	"hackamore/values"
)

// Clean returns a function without blocks that nothing reaches, with its values numbered in order.
func Clean(f Func) (Func, api.Errno) {
	if _, e := shape(f); e != api.OK {
		return Func{}, e
	}
	return cleaned(f)
}

// cleaned returns a function as Clean does. The numbers of its values may be any.
func cleaned(f Func) (Func, api.Errno) {
	f = withReached(f)
	numbers, count := numbering(f)
	f = renamed(f, func(v int) int {
		n, ok := numbers[v]
		if !ok {
			return count
		}
		return n
	})
	if _, e := CheckFunc(f); e != api.OK {
		return Func{}, e
	}
	return f, api.OK
}

// withReached returns a function with those of its blocks that are reached.
func withReached(f Func) Func {
	preds, next := predecessors(f), make([]int, len(f.Blocks))
	order := slices.Sorted(slices.Values(reached(f)))
	if len(order) == len(f.Blocks) {
		return f
	}
	for b := range next {
		next[b] = -1
	}
	for i, b := range order {
		next[b] = i
	}
	blocks := make([]Block, len(order))
	for i, b := range order {
		x := f.Blocks[b]
		x.Ins, x.End.To = slices.Clone(x.Ins), slices.Clone(x.End.To)
		for at, ins := range x.Ins {
			if ins.Op == Phi && len(ins.Args) == len(preds[b]) {
				x.Ins[at].Args = kept(ins.Args, preds[b], next)
			}
		}
		for k, to := range x.End.To {
			x.End.To[k] = next[to]
		}
		blocks[i] = x
	}
	f.Blocks = blocks
	return f
}

// kept returns the arguments of a phi for those predecessors that stay.
func kept(args, preds, next []int) []int {
	var l []int
	for k, v := range args {
		if next[preds[k]] >= 0 {
			l = append(l, v)
		}
	}
	return l
}

// numbering returns new numbers for all values, in the order in which they are made, and how many they are.
func numbering(f Func) (map[int]int, int) {
	numbers := map[int]int{}
	for v := range f.Params {
		numbers[v] = v
	}
	for _, x := range f.Blocks {
		for _, i := range x.Ins {
			numbers[i.Result] = len(numbers)
		}
		if x.End.Kind == Try {
			numbers[x.End.Call.Result] = len(numbers)
		}
	}
	return numbers, len(numbers)
}

// renamed returns a function with other numbers for its values. It shares no memory with that one.
func renamed(f Func, number func(v int) int) Func {
	all := func(l []int) []int {
		out := make([]int, len(l))
		for k, v := range l {
			out[k] = number(v)
		}
		return out
	}
	blocks := make([]Block, len(f.Blocks))
	for b, x := range f.Blocks {
		x.Ins = slices.Clone(x.Ins)
		for at, i := range x.Ins {
			x.Ins[at] = own(i)
			x.Ins[at].Result, x.Ins[at].Args = number(i.Result), all(i.Args)
		}
		x.End.Args, x.End.To = all(x.End.Args), slices.Clone(x.End.To)
		if x.End.Kind == Try {
			c := own(x.End.Call)
			c.Result, c.Args = number(c.Result), all(c.Args)
			x.End.Call = c
		}
		blocks[b] = x
	}
	f.Blocks, f.Params, f.Result = blocks, exprs.CloneTypes(f.Params), exprs.CloneType(f.Result)
	return f
}

// own returns an instruction whose type and literal are its own.
func own(i Ins) Ins {
	i.Type, i.Lit = exprs.CloneType(i.Type), values.Clone(i.Lit)
	return i
}

// Equal reports whether two functions are equal but for the numbers of their values.
func Equal(f, g Func) bool {
	if _, e := shape(f); e != api.OK {
		return false
	}
	if _, e := shape(g); e != api.OK {
		return false
	}
	f, g = inOrder(f), inOrder(g)
	return f.Name == g.Name && f.Partial == g.Partial && exprs.EqualType(f.Result, g.Result) &&
		slices.EqualFunc(f.Params, g.Params, exprs.EqualType) && slices.EqualFunc(f.Blocks, g.Blocks, equalBlocks)
}

// inOrder returns a function whose values are numbered in order, -1 for what nothing makes.
func inOrder(f Func) Func {
	numbers, _ := numbering(f)
	return renamed(f, func(v int) int {
		n, ok := numbers[v]
		if !ok {
			return -1
		}
		return n
	})
}

func equalBlocks(a, b Block) bool {
	x, y := a.End, b.End
	return slices.EqualFunc(a.Ins, b.Ins, equalIns) && x.Kind == y.Kind && slices.Equal(x.Args, y.Args) &&
		slices.Equal(x.To, y.To) && equalIns(x.Call, y.Call)
}

func equalIns(a, b Ins) bool {
	return a.Op == b.Op && a.Result == b.Result && slices.Equal(a.Args, b.Args) && a.Text == b.Text && a.Name == b.Name &&
		a.N == b.N && a.Flag == b.Flag && values.Same(a.Lit, b.Lit) && exprs.EqualType(a.Type, b.Type)
}
