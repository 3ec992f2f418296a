package ssa

import (
	"slices"

	"hackamore/api"
)

// variable is a local variable of a function whose loads and stores go.
type variable struct {
	typ    api.Type // of its first store
	stores []int    // the blocks with stores
	needed []bool   // the blocks at whose beginning a value of it is needed
	phis   map[int]int
}

// promoter makes values of the variables of a right function.
type promoter struct {
	*graph
	names     []string // in the order in which a walk comes to them
	variables map[string]*variable
	next      int           // a number for a value
	instead   map[int]int   // what loads and stores become
	args      map[int][]int // of the phis that are made
}

// Promote returns a function without Loads and Stores of local variables.
func Promote(f Func) (Func, api.Errno) {
	g, e := right(f)
	if e != api.OK {
		return Func{}, e
	}
	p := &promoter{graph: g, variables: map[string]*variable{}, next: top(f), instead: map[int]int{}, args: map[int][]int{}}
	p.collect()
	for _, name := range p.names {
		if p.variables[name].needed[0] {
			return Func{}, ErrUse
		}
	}
	p.place()
	p.rename()
	return cleaned(p.result())
}

// collect finds the variables, where they are stored, and where they are needed.
func (p *promoter) collect() {
	uses := map[int]bool{}
	for v := range used(p.Func) {
		uses[v] = true
	}
	stored := map[string]set{}
	for b, x := range p.Blocks {
		ahead := map[string]bool{} // stored in this block
		for _, i := range x.Ins {
			if i.Op != Load && i.Op != Store {
				continue
			}
			v := p.variable(i.Text)
			if !ahead[i.Text] && (i.Op == Load || uses[i.Result]) {
				v.needed[b] = true
			}
			if i.Op == Store && !ahead[i.Text] {
				ahead[i.Text] = true
				if len(v.stores) == 0 {
					v.typ = i.Type
					stored[i.Text] = newSet(len(p.Blocks))
				}
				v.stores = append(v.stores, b)
				stored[i.Text].put(b)
			}
		}
	}
	for name, v := range p.variables {
		p.spread(v.needed, stored[name])
	}
}

// variable returns a variable.
func (p *promoter) variable(name string) *variable {
	v := p.variables[name]
	if v == nil {
		v = &variable{needed: make([]bool, len(p.Blocks)), phis: map[int]int{}}
		p.variables[name] = v
		p.names = append(p.names, name)
	}
	return v
}

// spread finds all blocks at whose beginning a variable is needed: those ahead of one of them, unless it is stored there.
func (p *promoter) spread(needed []bool, stored set) {
	var queue []int
	for b, is := range needed {
		if is {
			queue = append(queue, b)
		}
	}
	for len(queue) > 0 {
		b := queue[0]
		queue = queue[1:]
		for _, a := range p.preds[b] {
			if !needed[a] && (stored == nil || !stored.has(a)) {
				needed[a] = true
				queue = append(queue, a)
			}
		}
	}
}

// place decides which blocks get phis, for each variable.
func (p *promoter) place() {
	frontier := p.frontier()
	for _, name := range p.names {
		v := p.variables[name]
		met := newSet(len(p.Blocks))
		queue := slices.Clone(v.stores)
		for len(queue) > 0 {
			b := queue[0]
			queue = queue[1:]
			for _, at := range frontier[b] {
				if !met.has(at) {
					met.put(at)
					queue = append(queue, at)
				}
			}
		}
		for _, b := range met.list() {
			if v.needed[b] {
				v.phis[b] = p.next
				p.args[p.next] = make([]int, len(p.preds[b]))
				p.next++
			}
		}
	}
}

// rename walks the tree of dominators, and finds what loads and stores become, and the Args of the phis that are made.
func (p *promoter) rename() {
	stacks := map[string][]int{}
	var walk func(b int)
	walk = func(b int) {
		var pushed []string
		push := func(name string, v int) {
			stacks[name] = append(stacks[name], v)
			pushed = append(pushed, name)
		}
		for _, name := range p.names {
			if v, ok := p.variables[name].phis[b]; ok {
				push(name, v)
			}
		}
		for _, i := range p.Blocks[b].Ins {
			if i.Op != Load && i.Op != Store {
				continue
			}
			if s := stacks[i.Text]; len(s) > 0 {
				p.instead[i.Result] = s[len(s)-1]
			}
			if i.Op == Store {
				push(i.Text, p.now(i.Args[0]))
			}
		}
		p.hand(b, stacks)
		for _, k := range p.below[b] {
			walk(k)
		}
		for _, name := range pushed {
			stacks[name] = stacks[name][:len(stacks[name])-1]
		}
	}
	walk(0)
}

// now returns what a value becomes.
func (p *promoter) now(v int) int {
	if w, ok := p.instead[v]; ok {
		return w
	}
	return v
}

// hand gives the phis behind a block the values that their variables have at its end.
func (p *promoter) hand(b int, stacks map[string][]int) {
	for _, to := range p.Blocks[b].End.To {
		for _, name := range p.names {
			phi, ok := p.variables[name].phis[to]
			if !ok {
				continue
			}
			s := stacks[name]
			for k, from := range p.preds[to] {
				if from == b {
					p.args[phi][k] = s[len(s)-1]
				}
			}
		}
	}
}

// result returns the function with phis in the place of loads and stores.
func (p *promoter) result() Func {
	f := p.Func
	f.Blocks = slices.Clone(f.Blocks)
	for b, x := range f.Blocks {
		first := 0
		for first < len(x.Ins) && x.Ins[first].Op == Phi {
			first++
		}
		l := slices.Clone(x.Ins[:first])
		for _, name := range p.names {
			v := p.variables[name]
			if phi, ok := v.phis[b]; ok {
				l = append(l, Ins{Op: Phi, Result: phi, Type: v.typ, Args: p.args[phi]})
			}
		}
		for _, i := range x.Ins[first:] {
			if i.Op != Load && i.Op != Store {
				l = append(l, i)
			}
		}
		f.Blocks[b].Ins = l
	}
	return renamed(f, p.now)
}
