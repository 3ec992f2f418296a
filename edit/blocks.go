package edit

import (
	"slices"

	"hackamore/ssa"
)

// Edge is a way to a block: the block at whose end it begins, and its index in To.
type Edge struct{ From, Index int }

// Edges returns the edges to each block, in the order of the arguments of its phis.
func Edges(f ssa.Func) [][]Edge {
	l := make([][]Edge, len(f.Blocks))
	for b, x := range f.Blocks {
		for k, to := range x.End.To {
			l[to] = append(l[to], Edge{b, k})
		}
	}
	return l
}

// IsOne reports whether the phis of the block to which both edges of a branch lead have the same argument for both.
func IsOne(f ssa.Func, block int) bool {
	to := f.Blocks[block].End.To[0]
	at := places(f)
	first, second := at[Edge{block, 0}], at[Edge{block, 1}]
	for _, i := range f.Blocks[to].Ins {
		if i.Op == ssa.Phi && i.Args[first] != i.Args[second] {
			return false
		}
	}
	return true
}

// places returns which arguments of phis belong to the edges.
func places(f ssa.Func) map[Edge]int {
	m := map[Edge]int{}
	for _, l := range Edges(f) {
		for k, e := range l {
			m[e] = k
		}
	}
	return m
}

// Turn makes the end of a block a jump to one of its To. Blocks that are not reached any more go.
func Turn(f *ssa.Func, block, to int) {
	old := places(*f)
	x := &f.Blocks[block]
	x.End = ssa.End{Kind: ssa.Jump, To: []int{x.End.To[to]}}
	settle(f, reached(*f), old, func(e Edge) Edge {
		if e.From == block {
			return Edge{block, to}
		}
		return e
	})
}

// Join puts the block to which another one jumps, and nothing else goes, behind that one.
func Join(f *ssa.Func, block int) {
	old := places(*f)
	joined := f.Blocks[block].End.To[0]
	l := f.Blocks[joined].Ins
	for len(l) > 0 && l[0].Op == ssa.Phi {
		Replace(*f, l[0].Result, l[0].Args[0])
		l = l[1:]
	}
	x := &f.Blocks[block]
	x.Ins, x.End = append(x.Ins, l...), f.Blocks[joined].End
	f.Blocks[joined] = ssa.Block{}
	settle(f, reached(*f), old, func(e Edge) Edge {
		if e.From == block {
			return Edge{joined, e.Index}
		}
		return e
	})
}

// reached reports which blocks are reached.
func reached(f ssa.Func) []bool {
	met := make([]bool, len(f.Blocks))
	queue := []int{0}
	for len(queue) > 0 {
		b := queue[len(queue)-1]
		queue = queue[:len(queue)-1]
		if !met[b] {
			met[b] = true
			queue = append(queue, f.Blocks[b].End.To...)
		}
	}
	return met
}

// settle takes out the blocks that do not stay. Phis get the arguments that they had for the edges from which those came that are
// there now.
func settle(f *ssa.Func, stays []bool, old map[Edge]int, origin func(Edge) Edge) {
	next, count := make([]int, len(f.Blocks)), 0
	for b := range f.Blocks {
		next[b] = count
		if stays[b] {
			count++
		} else {
			f.Blocks[b] = ssa.Block{}
		}
	}
	edges := Edges(*f)
	var blocks []ssa.Block
	for b, x := range f.Blocks {
		if !stays[b] {
			continue
		}
		for at, i := range x.Ins {
			if i.Op != ssa.Phi {
				break
			}
			args := []int{}
			for _, e := range edges[b] {
				args = append(args, i.Args[old[origin(e)]])
			}
			x.Ins[at].Args = args
		}
		blocks = append(blocks, x)
	}
	for _, x := range blocks {
		for k, to := range x.End.To {
			x.End.To[k] = next[to]
		}
	}
	f.Blocks = blocks
}

// Inline puts the blocks of another function in the place of a direct of it.
func Inline(f *ssa.Func, g ssa.Func, block, at int) {
	g = Clone(g)
	call, n := f.Blocks[block].Ins[at], len(g.Blocks)
	fit(g, call.Args, Top(*f))
	shift := func(x ssa.Block, by, from int) {
		for k, to := range x.End.To {
			if to >= from {
				x.End.To[k] = to + by
			}
		}
	}
	for _, x := range f.Blocks {
		shift(x, n+1, block+1)
	}
	back := ssa.Ins{Op: ssa.Phi, Result: call.Result, Type: call.Type}
	for b := range g.Blocks {
		x := &g.Blocks[b]
		shift(*x, block+1, 0)
		if x.End.Kind == ssa.Return {
			back.Args = append(back.Args, x.End.Args[0])
			x.End = ssa.End{Kind: ssa.Jump, To: []int{block + n + 1}}
		}
	}
	x := f.Blocks[block]
	behind := ssa.Block{Ins: append([]ssa.Ins{back}, x.Ins[at+1:]...), End: x.End}
	f.Blocks[block] = ssa.Block{Ins: x.Ins[:at:at], End: ssa.End{Kind: ssa.Jump, To: []int{block + 1}}}
	f.Blocks = slices.Insert(f.Blocks, block+1, append(g.Blocks, behind)...)
}

// fit gives the values of a function other numbers: arguments in the place of its parameters, and numbers from the first one on.
func fit(g ssa.Func, args []int, first int) {
	numbers := map[int]int{}
	for k, v := range args {
		numbers[k] = v
	}
	for i := range Instructions(g) {
		numbers[i.Result] = first
		i.Result = first
		first++
	}
	for l := range Args(g) {
		for k, v := range l {
			l[k] = numbers[v]
		}
	}
}
