package witness

import (
	"slices"
	"strings"

	"hackamore/api"
	"hackamore/edit"
	"hackamore/num"
	"hackamore/optimize"
	"hackamore/ssa"
	"hackamore/targets"
	"hackamore/values"
)

// book is a program on which steps are done.
type book struct {
	ssa.Program
	index   map[string]int // of the functions, by their names
	own     []bool         // whether a function may be changed in place
	targets *targets.Finder
}

// newBook returns a book with a right program, of which it changes nothing.
func newBook(p ssa.Program) *book {
	b := &book{p, map[string]int{}, make([]bool, len(p.Funcs)), targets.New(p)}
	b.Funcs = slices.Clone(p.Funcs)
	for i, f := range p.Funcs {
		b.index[f.Name] = i
	}
	return b
}

// refusal leaves a step that may not be done.
type refusal struct{ api.Errno }

// ask leaves a step, unless something that its rule asks for holds.
func ask(holds bool) {
	if !holds {
		panic(refusal{ErrRule})
	}
}

// do does a step, and returns its error. Behind an error the book is worth nothing.
func (b *book) do(s optimize.Step) (e api.Errno) {
	defer func() {
		if r := recover(); r != nil {
			refused, ok := r.(refusal)
			if !ok {
				panic(r)
			}
			e = refused.Errno
		}
	}()
	if !isStep(s) || s.Func < 0 || s.Func >= len(b.Funcs) {
		return ErrStep
	}
	f := &b.Funcs[s.Func]
	if !b.own[s.Func] {
		*f, b.own[s.Func] = edit.Clone(*f), true
	}
	b.rule(f, s)
	_, e = ssa.CheckFunc(*f)
	ask(e == api.OK && b.isCalled(*f))
	return api.OK
}

// isCalled reports whether all directs of a function have as many Args as their functions want.
func (b *book) isCalled(f ssa.Func) bool {
	for i := range edit.Instructions(f) {
		if i.Op != ssa.Direct {
			continue
		}
		k, ok := b.index[i.Text]
		if !ok || len(i.Args) != len(b.Funcs[k].Params) {
			return false
		}
	}
	return true
}

// Fields of a step that its kind may name.
const (
	hasA = 1 << iota
	hasB
	hasLit
	hasText
)

// isStep reports whether a step is of one of the kinds, and has nothing but what its kind names.
func isStep(s optimize.Step) bool {
	if s.Kind < optimize.StepCopy || s.Kind > optimize.StepCount {
		return false
	}
	has := fields[s.Kind]
	isLit := s.Lit.Kind != 0 || s.Lit.Lo != 0 || s.Lit.Hi != 0 || s.Lit.Name != "" || len(s.Lit.Kids) > 0
	return (has&hasA != 0 || s.A == 0) && (has&hasB != 0 || s.B == 0) && (has&hasLit != 0 || !isLit) && (has&hasText != 0 || s.Text == "")
}

var fields = [optimize.StepCount + 1]int{
	optimize.StepCopy:   hasA | hasB,
	optimize.StepFold:   hasA | hasLit,
	optimize.StepCommon: hasA | hasB,
	optimize.StepDrop:   hasA,
	optimize.StepBranch: hasA | hasB,
	optimize.StepJoin:   hasA,
	optimize.StepInline: hasA,
	optimize.StepDirect: hasA | hasText,
	optimize.StepStack:  hasA,
	optimize.StepField:  hasA | hasB,
}

// rule does a step in a function, if it may be done there.
func (b *book) rule(f *ssa.Func, s optimize.Step) {
	switch s.Kind {
	case optimize.StepCopy:
		copied(f, s)
	case optimize.StepFold:
		fold(f, s)
	case optimize.StepCommon:
		common(f, s)
	case optimize.StepDrop:
		drop(f, s)
	case optimize.StepBranch:
		branch(f, s)
	case optimize.StepJoin:
		join(f, s)
	case optimize.StepInline:
		b.inline(f, s)
	case optimize.StepDirect:
		b.direct(f, s)
	case optimize.StepStack:
		stack(f, s)
	case optimize.StepField:
		field(f, s)
	}
}

// made returns the instruction of a value, which has to be there, and its block.
func made(f *ssa.Func, v int) (i *ssa.Ins, block int) {
	b, at, ok := edit.Find(*f, v)
	ask(ok)
	return &f.Blocks[b].Ins[at], b
}

// isMade reports whether a value is made by an operation, and returns its instruction.
func isMade(f *ssa.Func, v, op int) (ssa.Ins, bool) {
	b, at, ok := edit.Find(*f, v)
	if !ok || f.Blocks[b].Ins[at].Op != op {
		return ssa.Ins{}, false
	}
	return f.Blocks[b].Ins[at], true
}

func copied(f *ssa.Func, s optimize.Step) {
	i, _ := made(f, s.A)
	ask(s.A != s.B)
	if i.Op == ssa.Phi {
		others := func(v int) bool { return v != s.A && v != s.B }
		ask(slices.Contains(i.Args, s.B) && !slices.ContainsFunc(i.Args, others))
	} else {
		ask(i.Op == ssa.Item)
		tuple, ok := isMade(f, i.Args[0], ssa.Tuple)
		ask(ok && i.N < len(tuple.Args) && tuple.Args[i.N] == s.B)
	}
	edit.Replace(*f, s.A, s.B)
}

func fold(f *ssa.Func, s optimize.Step) {
	i, _ := made(f, s.A)
	var lits []api.Value
	for _, v := range i.Args {
		c, ok := isMade(f, v, ssa.Const)
		ask(ok)
		lits = append(lits, c.Lit)
	}
	want := api.Value{}
	switch i.Op {
	case ssa.Is:
		want = edit.Truth(values.Same(lits[0], lits[1]))
	case ssa.Native:
		typ, method, _ := strings.Cut(i.Text, ".")
		v, raised, e := num.Call(typ, method, lits)
		ask(e == api.OK && !raised)
		want = v
	default:
		ask(false)
	}
	ask(values.Same(want, s.Lit))
	*i = ssa.Ins{Op: ssa.Const, Result: i.Result, Type: i.Type, Lit: s.Lit}
}

func common(f *ssa.Func, s optimize.Step) {
	i, here := made(f, s.A)
	k, there := made(f, s.B)
	ask(s.A != s.B && edit.Alike(*i, *k) && (edit.Pure(*i) || i.Op == ssa.Phi && here == there))
	edit.Replace(*f, s.A, s.B)
	edit.Take(*f, s.A)
}

func drop(f *ssa.Func, s optimize.Step) {
	i, _ := made(f, s.A)
	ask(edit.Droppable(*i))
	for l := range edit.Args(*f) {
		own := len(l) > 0 && len(i.Args) > 0 && &l[0] == &i.Args[0]
		ask(own || !slices.Contains(l, s.A))
	}
	edit.Take(*f, s.A)
}

func branch(f *ssa.Func, s optimize.Step) {
	ask(s.A >= 0 && s.A < len(f.Blocks) && (s.B == 0 || s.B == 1))
	x := f.Blocks[s.A].End
	ask(x.Kind == ssa.Branch)
	c, ok := isMade(f, x.Args[0], ssa.Const)
	ask(ok && values.Same(c.Lit, edit.Truth(s.B == 0)) || s.B == 0 && x.To[0] == x.To[1] && edit.IsOne(*f, s.A))
	edit.Turn(f, s.A, s.B)
}

func join(f *ssa.Func, s optimize.Step) {
	ask(s.A >= 0 && s.A < len(f.Blocks))
	x := f.Blocks[s.A].End
	ask(x.Kind == ssa.Jump && x.To[0] != s.A && len(edit.Edges(*f)[x.To[0]]) == 1)
	edit.Join(f, s.A)
}

func (b *book) inline(f *ssa.Func, s optimize.Step) {
	block, at, ok := edit.Find(*f, s.A)
	ask(ok && f.Blocks[block].Ins[at].Op == ssa.Direct)
	k := b.index[f.Blocks[block].Ins[at].Text]
	g := b.Funcs[k]
	ask(k != s.Func && !g.Partial)
	returns := false
	for _, x := range g.Blocks {
		ask(x.End.Kind != ssa.Error)
		returns = returns || x.End.Kind == ssa.Return
	}
	ask(returns)
	for i := range edit.Instructions(g) {
		ask(i.Op != ssa.Load && i.Op != ssa.Store)
	}
	edit.Inline(f, g, block, at)
}

func (b *book) direct(f *ssa.Func, s optimize.Step) {
	call := caller(f, s.A)
	ask(call != nil && call.Op == ssa.Call)
	t, ok := typ(f, call.Args[0])
	ask(ok)
	l, e := b.targets.Of(t, call.Text)
	ask(e == api.OK && slices.Equal(l, []string{s.Text}))
	call.Op, call.Text = ssa.Direct, s.Text
}

// caller returns the instruction that makes a value, which may be the Call of a try.
func caller(f *ssa.Func, v int) *ssa.Ins {
	for i := range edit.Instructions(*f) {
		if i.Result == v {
			return i
		}
	}
	return nil
}

// typ returns the type of a value: that of a parameter, or of what makes it.
func typ(f *ssa.Func, v int) (api.Type, bool) {
	if v < len(f.Params) {
		return f.Params[v], true
	}
	i := caller(f, v)
	if i == nil {
		return api.Type{}, false
	}
	return i.Type, true
}

func stack(f *ssa.Func, s optimize.Step) {
	i, _ := made(f, s.A)
	ask(i.Op == ssa.Make && !i.Flag && !edit.Escapes(*f, s.A))
	i.Flag = true
}

func field(f *ssa.Func, s optimize.Step) {
	block, at, ok := edit.Find(*f, s.A)
	ask(ok && f.Blocks[block].Ins[at].Op == ssa.Get)
	object := f.Blocks[block].Ins[at].Args[0]
	_, ok = isMade(f, object, ssa.Make)
	ask(ok && !edit.Escapes(*f, object))
	v, ok := edit.Ahead(f.Blocks[block], at)
	ask(ok && v == s.B)
	edit.Replace(*f, s.A, s.B)
	edit.Take(*f, s.A)
}
