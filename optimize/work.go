package optimize

import (
	"slices"

	"hackamore/edit"
	"hackamore/ssa"
	"hackamore/targets"
)

// mostSteps is the greatest number of steps: layer 22 takes no more.
const mostSteps = 20000

// optimizer is a program that passes change in place, and the steps that were done.
type optimizer struct {
	ssa.Program
	steps   []Step
	index   map[string]int // of the functions, by their names
	targets *targets.Finder
}

// newOptimizer returns an optimizer of a right program, of which it changes nothing.
func newOptimizer(p ssa.Program) *optimizer {
	o := &optimizer{Program: p, index: map[string]int{}, targets: targets.New(p)}
	o.Funcs = slices.Clone(p.Funcs)
	for i, f := range p.Funcs {
		o.Funcs[i] = edit.Clone(f)
		o.index[f.Name] = i
	}
	return o
}

// pass does steps in a function, and reports whether it did any; when it did none, there are none left.
type pass = func(*work) bool

// passes returns all passes, by their numbers.
func passes() [Passes + 1]pass {
	return [Passes + 1]pass{
		Copies:  (*work).copies,
		Fold:    (*work).fold,
		Common:  (*work).common,
		Dead:    (*work).dead,
		Inline:  (*work).inline,
		Devirt:  (*work).devirt,
		Escape:  (*work).escape,
		Forward: (*work).forward,
	}
}

// full leaves the passes where there are as many steps as there may be.
type full struct{}

// run goes through passes. What a step changes is done as a whole, so that nothing is half done where they are left.
func (o *optimizer) run(numbers []int) {
	defer func() {
		if r := recover(); r != nil {
			if _, ok := r.(full); !ok {
				panic(r)
			}
		}
	}()
	table := passes()
	for _, n := range numbers {
		for changed := true; changed; {
			changed = false
			for i := range o.Funcs {
				for table[n](&work{o, &o.Funcs[i], i}) {
					changed = true
				}
			}
		}
	}
}

// work is a function in which a pass does steps.
type work struct {
	*optimizer
	*ssa.Func
	number int
}

// do notes a step. The change that it makes follows at once.
func (w *work) do(s Step) {
	if len(w.steps) >= mostSteps {
		panic(full{})
	}
	s.Func = w.number
	w.steps = append(w.steps, s)
}

// made returns the instructions in blocks, by the values that they make.
func (w *work) made() []*ssa.Ins {
	l := make([]*ssa.Ins, edit.Top(*w.Func))
	for b := range w.Blocks {
		x := &w.Blocks[b]
		for at := range x.Ins {
			l[x.Ins[at].Result] = &x.Ins[at]
		}
	}
	return l
}

// changes are what becomes of values before all is changed in place: other values, or nothing.
type changes struct {
	f    *ssa.Func
	to   []int // a value is the value here, and so on until one that is itself
	gone []bool
}

func (w *work) changes() *changes {
	n := edit.Top(*w.Func)
	c := &changes{w.Func, make([]int, n), make([]bool, n)}
	for v := range c.to {
		c.to[v] = v
	}
	return c
}

// now returns what a value is now.
func (c *changes) now(v int) int {
	for c.to[v] != v {
		c.to[v] = c.to[c.to[v]]
		v = c.to[v]
	}
	return v
}

// settle changes the function.
func (c *changes) settle() {
	for l := range edit.Args(*c.f) {
		for k, v := range l {
			l[k] = c.now(v)
		}
	}
	for b := range c.f.Blocks {
		x := &c.f.Blocks[b]
		x.Ins = slices.DeleteFunc(x.Ins, func(i ssa.Ins) bool { return c.gone[i.Result] })
	}
}
