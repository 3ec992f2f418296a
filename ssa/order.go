package ssa

import (
	"iter"
	"slices"

	"hackamore/api"
)

// right returns the graph of a function, or the error of CheckFunc.
func right(f Func) (*graph, api.Errno) {
	if _, e := shape(f); e != api.OK {
		return nil, e
	}
	g := newGraph(f)
	_, e := g.check()
	return g, e
}

// Preds returns the blocks ahead of each block, each once for each way.
func Preds(f Func) ([][]int, api.Errno) {
	g, e := right(f)
	if e != api.OK {
		return nil, e
	}
	return g.preds, api.OK
}

// Order returns the reached blocks in reverse postorder.
func Order(f Func) ([]int, api.Errno) {
	g, e := right(f)
	if e != api.OK {
		return nil, e
	}
	return g.order, api.OK
}

// Dominators returns the immediate dominator of each block, -1 for the first one.
func Dominators(f Func) ([]int, api.Errno) {
	g, e := right(f)
	if e != api.OK {
		return nil, e
	}
	return g.above, api.OK
}

// Dominates reports whether each way to a block goes through another one.
func Dominates(f Func, a, b int) (bool, api.Errno) {
	g, e := right(f)
	if e != api.OK {
		return false, e
	}
	if n := len(f.Blocks); min(a, b) < 0 || max(a, b) >= n {
		return false, api.ErrNone
	}
	return g.dominates(a, b), api.OK
}

// Frontier returns the dominance frontier of each block.
func Frontier(f Func) ([][]int, api.Errno) {
	g, e := right(f)
	if e != api.OK {
		return nil, e
	}
	return g.frontier(), api.OK
}

// frontier returns the dominance frontiers: a block belongs to that of each block from its predecessors up to its own dominator.
func (g *graph) frontier() [][]int {
	l := make([][]int, len(g.Blocks))
	for b, preds := range g.preds {
		for _, a := range preds {
			for ; a != g.above[b]; a = g.above[a] {
				if n := len(l[a]); n == 0 || l[a][n-1] != b {
					l[a] = append(l[a], b)
				}
			}
		}
	}
	return l
}

// Loops returns the heads of loops, and the blocks of each loop.
func Loops(f Func) (heads []int, blocks [][]int, e api.Errno) {
	g, e := right(f)
	if e != api.OK {
		return nil, nil, e
	}
	for h := range f.Blocks {
		if l := g.loop(h); len(l) > 0 {
			heads = append(heads, h)
			blocks = append(blocks, l)
		}
	}
	return heads, blocks, api.OK
}

// loop returns the blocks of the loop with a head, ascending; none, if it is no head.
func (g *graph) loop(head int) []int {
	inside := map[int]bool{}
	var queue []int
	for _, p := range g.preds[head] {
		if g.dominates(head, p) {
			inside[head] = true
			queue = append(queue, p)
		}
	}
	for len(queue) > 0 {
		b := queue[0]
		queue = queue[1:]
		if !inside[b] {
			inside[b] = true
			queue = append(queue, g.preds[b]...)
		}
	}
	var l []int
	for b := range g.Blocks {
		if inside[b] {
			l = append(l, b)
		}
	}
	return l
}

// set is a set of small numbers.
type set []uint64

func newSet(n int) set { return make(set, (n+63)/64) }

func (s set) has(i int) bool { return s[i/64]>>(i%64)&1 == 1 }

func (s set) put(i int) { s[i/64] |= 1 << (i % 64) }

// join puts all that another set has but a third one has not, and reports whether this was something new.
func (s set) join(other, but set) bool {
	changed := false
	for i, w := range other {
		next := s[i] | w&^but[i]
		changed = changed || next != s[i]
		s[i] = next
	}
	return changed
}

// list returns the numbers of a set, ascending.
func (s set) list() []int {
	var l []int
	for i := range len(s) * 64 {
		if s[i/64] == 0 {
			continue
		}
		if s.has(i) {
			l = append(l, i)
		}
	}
	return l
}

// Live returns the values that are needed at the beginning of each block.
func Live(f Func) ([][]int, api.Errno) {
	g, e := right(f)
	if e != api.OK {
		return nil, e
	}
	n := top(f)
	needed, made := make([]set, len(f.Blocks)), make([]set, len(f.Blocks))
	for b := range f.Blocks {
		needed[b], made[b] = newSet(n), newSet(n)
	}
	for v, s := range g.spots() {
		if v >= len(f.Params) && s.block >= 0 {
			made[s.block].put(v)
		}
	}
	for b, x := range f.Blocks {
		for _, i := range x.Ins {
			for k, v := range i.Args {
				at := b
				if i.Op == Phi {
					at = g.preds[b][k]
				}
				needed[at].put(v)
			}
		}
		for _, v := range append(slices.Clone(x.End.Args), x.End.Call.Args...) {
			needed[b].put(v)
		}
	}
	for b, s := range needed {
		for i := range s {
			s[i] &^= made[b][i]
		}
	}
	g.flowBack(needed, made)
	lists := make([][]int, len(f.Blocks))
	for b, s := range needed {
		lists[b] = s.list()
	}
	return lists, api.OK
}

// flowBack puts into the set of each block what those behind it have, but for what is made in it.
func (g *graph) flowBack(needed, made []set) {
	for changed := true; changed; {
		changed = false
		for _, b := range slices.Backward(g.order) {
			for _, to := range g.Blocks[b].End.To {
				changed = needed[b].join(needed[to], made[b]) || changed
			}
		}
	}
}

// top returns the number above all values of a function.
func top(f Func) int {
	n := len(f.Params)
	for _, x := range f.Blocks {
		for _, i := range x.Ins {
			n = max(n, i.Result+1)
		}
		if x.End.Kind == Try {
			n = max(n, x.End.Call.Result+1)
		}
	}
	return n
}

// Uses returns how often each value is used.
func Uses(f Func) ([]int, api.Errno) {
	if _, e := right(f); e != api.OK {
		return nil, e
	}
	l := make([]int, top(f))
	for v := range used(f) {
		l[v]++
	}
	return l, api.OK
}

// used hands on the values that stand in Args, each as often as it does.
func used(f Func) iter.Seq[int] {
	return func(yield func(int) bool) {
		for _, x := range f.Blocks {
			for _, i := range x.Ins {
				for _, v := range i.Args {
					if !yield(v) {
						return
					}
				}
			}
			for _, v := range append(slices.Clone(x.End.Args), x.End.Call.Args...) {
				if !yield(v) {
					return
				}
			}
		}
	}
}
