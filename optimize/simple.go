package optimize

import (
	"slices"
	"strings"

	"hackamore/api"
	"hackamore/edit"
	"hackamore/num"
	"hackamore/ssa"
	"hackamore/values"
)

// copies replaces phis and items that are just another value, and drops what nobody uses.
func (w *work) copies() bool {
	before := len(w.steps)
	w.copyAll()
	w.drops()
	return len(w.steps) > before
}

// copyAll replaces phis and items, until none is left that is just another value.
func (w *work) copyAll() {
	made, c := w.made(), w.changes()
	defer c.settle()
	for changed := true; changed; {
		changed = false
		for a, i := range made {
			if i == nil || c.gone[a] {
				continue
			}
			if b, ok := copyOf(*i, made, c.now); ok {
				w.do(Step{Kind: StepCopy, A: a, B: b})
				c.to[a] = b
				w.do(Step{Kind: StepDrop, A: a})
				c.gone[a] = true
				changed = true
			}
		}
	}
}

// copyOf returns the value that a phi or an item just is.
func copyOf(i ssa.Ins, made []*ssa.Ins, now func(v int) int) (int, bool) {
	switch i.Op {
	case ssa.Phi:
		found := -1
		for _, v := range i.Args {
			if v = now(v); v == i.Result || v == found {
				continue
			}
			if found >= 0 {
				return 0, false
			}
			found = v
		}
		return found, found >= 0
	case ssa.Item:
		t := made[now(i.Args[0])]
		if t == nil || t.Op != ssa.Tuple || i.N >= len(t.Args) {
			return 0, false
		}
		return now(t.Args[i.N]), true
	}
	return 0, false
}

// drops drops what nobody uses.
func (w *work) drops() bool {
	made, c, before := w.made(), w.changes(), len(w.steps)
	defer c.settle()
	uses := make([]int, len(made))
	for l := range edit.Args(*w.Func) {
		for _, v := range l {
			uses[v]++
		}
	}
	var queue []int
	for v, i := range made {
		if i != nil {
			queue = append(queue, v)
			uses[v] -= count(i.Args, v)
		}
	}
next:
	for len(queue) > 0 {
		v := queue[len(queue)-1]
		queue = queue[:len(queue)-1]
		i := made[v]
		if i == nil || c.gone[v] || uses[v] > 0 || !edit.Droppable(*i) {
			continue next
		}
		w.do(Step{Kind: StepDrop, A: v})
		c.gone[v] = true
		for _, a := range i.Args {
			if a != v {
				uses[a]--
				queue = append(queue, a)
			}
		}
	}
	return len(w.steps) > before
}

// count returns how often a number stands in a list.
func count(l []int, n int) int {
	c := 0
	for _, k := range l {
		if k == n {
			c++
		}
	}
	return c
}

// fold computes what constants tell.
func (w *work) fold() bool {
	made, before := w.made(), len(w.steps)
	for changed := true; changed; {
		changed = false
		for a, i := range made {
			if i == nil {
				continue
			}
			if lit, ok := folded(*i, made); ok {
				w.do(Step{Kind: StepFold, A: a, Lit: lit})
				*i = ssa.Ins{Op: ssa.Const, Result: i.Result, Type: i.Type, Lit: lit}
				changed = true
			}
		}
	}
	for b, x := range w.Blocks {
		if to, ok := w.turned(b, x.End, made); ok {
			w.do(Step{Kind: StepBranch, A: b, B: to})
			edit.Turn(w.Func, b, to)
			break
		}
	}
	return len(w.steps) > before
}

// folded returns the constant that a native or an is of constants makes.
func folded(i ssa.Ins, made []*ssa.Ins) (api.Value, bool) {
	if i.Op != ssa.Native && i.Op != ssa.Is {
		return api.Value{}, false
	}
	var lits []api.Value
	for _, v := range i.Args {
		c := made[v]
		if c == nil || c.Op != ssa.Const {
			return api.Value{}, false
		}
		lits = append(lits, c.Lit)
	}
	if i.Op == ssa.Is {
		return edit.Truth(values.Same(lits[0], lits[1])), true
	}
	typ, method, _ := strings.Cut(i.Text, ".")
	v, raised, e := num.Call(typ, method, lits)
	return v, e == api.OK && !raised
}

// turned returns the index of the only way that the branch at the end of a block needs.
func (w *work) turned(block int, x ssa.End, made []*ssa.Ins) (int, bool) {
	if x.Kind != ssa.Branch {
		return 0, false
	}
	if c := made[x.Args[0]]; c != nil && c.Op == ssa.Const {
		for to, is := range []bool{true, false} {
			if values.Same(c.Lit, edit.Truth(is)) {
				return to, true
			}
		}
	}
	return 0, x.To[0] == x.To[1] && edit.IsOne(*w.Func, block)
}

// dead drops what nobody uses, and joins blocks.
func (w *work) dead() bool {
	changed := w.drops()
	edges := edit.Edges(*w.Func)
	for b, x := range w.Blocks {
		if x.End.Kind == ssa.Jump && x.End.To[0] != b && len(edges[x.End.To[0]]) == 1 {
			w.do(Step{Kind: StepJoin, A: b})
			edit.Join(w.Func, b)
			return true
		}
	}
	return changed
}

// escape keeps objects on the stack that nobody else meets.
func (w *work) escape() bool {
	before := len(w.steps)
	for _, i := range w.made() {
		if i != nil && i.Op == ssa.Make && !i.Flag && !edit.Escapes(*w.Func, i.Result) {
			w.do(Step{Kind: StepStack, A: i.Result})
			i.Flag = true
		}
	}
	return len(w.steps) > before
}

// forward reads fields of objects that nobody else meets where they were written.
func (w *work) forward() bool {
	before, made := len(w.steps), w.made()
	own := make([]bool, len(made))
	for v, i := range made {
		own[v] = i != nil && i.Op == ssa.Make && !edit.Escapes(*w.Func, v)
	}
	for b := range w.Blocks {
		x := &w.Blocks[b]
		for at := 0; at < len(x.Ins); at++ {
			i := x.Ins[at]
			if i.Op != ssa.Get || !own[i.Args[0]] {
				continue
			}
			if v, ok := edit.Ahead(*x, at); ok {
				w.do(Step{Kind: StepField, A: i.Result, B: v})
				edit.Replace(*w.Func, i.Result, v)
				x.Ins = slices.Delete(x.Ins, at, at+1)
				at--
			}
		}
	}
	return len(w.steps) > before
}
