package ssa

import (
	"slices"

	"hackamore/api"
)

// graph is a function of the right shape with its ways.
type graph struct {
	Func
	preds [][]int
	order []int   // the blocks that are reached, in reverse postorder
	place []int   // of each block in the order, -1 if it is not reached
	above []int   // the immediate dominators, -1 without one
	below [][]int // the blocks whose immediate dominator a block is, ascending
	first []int   // of each block, where a walk over the tree of dominators comes to it,
	last  []int   // and the last place to which it comes below
}

// newGraph returns the graph of a function of the right shape.
func newGraph(f Func) *graph {
	g := &graph{Func: f, preds: predecessors(f), order: reached(f)}
	g.place = make([]int, len(f.Blocks))
	for b := range g.place {
		g.place[b] = -1
	}
	for i, b := range g.order {
		g.place[b] = i
	}
	g.dominate()
	g.number()
	return g
}

// predecessors returns the predecessors of each block, ascending.
func predecessors(f Func) [][]int {
	l := make([][]int, len(f.Blocks))
	for b, x := range f.Blocks {
		for _, to := range x.End.To {
			l[to] = append(l[to], b)
		}
	}
	return l
}

// reached returns the blocks that are reached, in reverse postorder.
func reached(f Func) []int {
	var order []int
	met := make([]bool, len(f.Blocks))
	var walk func(b int)
	walk = func(b int) {
		met[b] = true
		for _, to := range f.Blocks[b].End.To {
			if !met[to] {
				walk(to)
			}
		}
		order = append(order, b)
	}
	walk(0)
	slices.Reverse(order)
	return order
}

// dominate finds the immediate dominators of the blocks that are reached.
func (g *graph) dominate() {
	g.above = make([]int, len(g.Blocks))
	for b := range g.above {
		g.above[b] = -1
	}
sweep:
	for {
		changed := false
		for _, b := range g.order[1:] {
			found := g.nearest(b)
			changed = changed || found != g.above[b]
			g.above[b] = found
		}
		if !changed {
			break sweep
		}
	}
}

// nearest returns the first block that stands above all predecessors of a block of which one is known.
func (g *graph) nearest(b int) int {
	found := -1
	for _, p := range g.preds[b] {
		switch {
		case g.place[p] < 0 || p != 0 && g.above[p] < 0:
		case found < 0:
			found = p
		default:
			found = g.common(found, p)
		}
	}
	return found
}

// common returns the first block that stands above two blocks, or is one of them.
func (g *graph) common(a, b int) int {
	for a != b {
		for g.place[a] > g.place[b] {
			a = g.above[a]
		}
		for g.place[b] > g.place[a] {
			b = g.above[b]
		}
	}
	return a
}

// number numbers the blocks by a walk over the tree of dominators.
func (g *graph) number() {
	n := len(g.Blocks)
	g.below, g.first, g.last = make([][]int, n), make([]int, n), make([]int, n)
	for b, a := range g.above {
		if a >= 0 {
			g.below[a] = append(g.below[a], b)
		}
	}
	count := 0
	var walk func(b int)
	walk = func(b int) {
		g.first[b] = count
		count++
		for _, k := range g.below[b] {
			walk(k)
		}
		g.last[b] = count - 1
	}
	walk(0)
}

// dominates reports whether a block dominates another one; both are reached.
func (g *graph) dominates(a, b int) bool {
	return g.first[a] <= g.first[b] && g.first[b] <= g.last[a]
}

// spot is where a value is made: in a block, ahead of the instruction with an index; 0 for what is made at its beginning.
type spot struct{ block, at int }

// spots returns where values are made: parameters at the beginning of the block 0, and in the block -1 what nothing makes.
func (g *graph) spots() []spot {
	l := make([]spot, top(g.Func))
	for v := range l[len(g.Params):] {
		l[len(g.Params)+v].block = -1
	}
	for b, x := range g.Blocks {
		for at, i := range x.Ins {
			l[i.Result] = spot{b, at + 1}
		}
		if x.End.Kind == Try {
			l[x.End.Call.Result] = spot{x.End.To[0], 0}
		}
	}
	return l
}

// check returns the error of a function of the right shape, and where it is.
func (g *graph) check() (Fault, api.Errno) {
	for b, at := range g.place {
		if at < 0 {
			return Fault{Block: b}, ErrBlock
		}
	}
	for b, x := range g.Blocks {
		if x.End.Kind == Try && len(g.preds[x.End.To[0]]) > 1 {
			return Fault{Block: b, At: len(x.Ins)}, ErrBlock
		}
	}
	spots := g.spots()
	isThere := func(v, block, at int) bool {
		if v >= len(spots) || spots[v].block < 0 {
			return false
		}
		s := spots[v]
		if s.block == block {
			return s.at <= at
		}
		return g.dominates(s.block, block)
	}
	for b, x := range g.Blocks {
		for at, i := range x.Ins {
			if e := g.checkArgs(i, b, at, isThere); e != api.OK {
				return Fault{Block: b, At: at}, e
			}
		}
		for _, v := range append(slices.Clone(x.End.Args), x.End.Call.Args...) {
			if !isThere(v, b, len(x.Ins)) {
				return Fault{Block: b, At: len(x.Ins)}, ErrUse
			}
		}
	}
	return Fault{}, api.OK
}

// checkArgs returns the error of the Args of an instruction.
func (g *graph) checkArgs(i Ins, block, at int, isThere func(v, block, at int) bool) api.Errno {
	if i.Op == Phi && len(i.Args) != len(g.preds[block]) {
		return ErrPhi
	}
	for k, v := range i.Args {
		b, n := block, at
		if i.Op == Phi {
			b = g.preds[block][k]
			n = len(g.Blocks[b].Ins)
		}
		if !isThere(v, b, n) {
			return ErrUse
		}
	}
	return api.OK
}
