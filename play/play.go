// Package play runs functions of the intermediate form with numbers, objects and effects, for tests: whatever they do has a meaning.
package play

import (
	"strconv"
	"strings"

	"hackamore/api"
	"hackamore/num"
	"hackamore/ssa"
	"hackamore/values"
)

// Result is what a run did: its effects, one behind the other, and how it ended. Whole tells whether it came to an end.
type Result struct {
	Effects []string
	End     string
	Whole   bool
}

// place is a field of an object.
type place struct {
	object uint64
	field  string
}

// player runs functions.
type player struct {
	ssa.Program
	left    int
	objects uint64
	fields  map[place]api.Value
	shown   map[uint64]int // the numbers of objects, as effects show them
	out     []string
}

// ended leaves a run.
type ended string

// Run runs a function of a program with arguments, for at most so many steps.
func Run(p ssa.Program, f int, args []api.Value, steps int) (r Result) {
	d := &player{Program: p, left: steps, objects: 1000, fields: map[place]api.Value{}, shown: map[uint64]int{}}
	defer func() {
		if e, ok := recover().(ended); ok {
			r = Result{d.out, string(e), e != "steps"}
		}
	}()
	v, raised := d.run(p.Funcs[f], args, 0)
	if raised {
		return Result{d.out, "error", true}
	}
	return Result{d.out, "value " + d.show(v), true}
}

// Alike reports whether two runs do the same, as far as both went.
func Alike(a, b Result) bool {
	n := min(len(a.Effects), len(b.Effects))
	for i := range n {
		if a.Effects[i] != b.Effects[i] {
			return false
		}
	}
	if a.Whole && b.Whole {
		return a.End == b.End && len(a.Effects) == len(b.Effects)
	}
	return !a.Whole && len(b.Effects) >= n || !b.Whole && len(a.Effects) >= n
}

// show returns the text of a value; objects are numbered as they are met.
func (d *player) show(v api.Value) string {
	switch v.Kind {
	case api.ValObject:
		if _, ok := d.shown[v.Lo]; !ok {
			d.shown[v.Lo] = len(d.shown)
		}
		return "#" + strconv.Itoa(d.shown[v.Lo])
	case api.ValTuple:
		l := []string{}
		for _, k := range v.Kids {
			l = append(l, d.show(k))
		}
		return "(" + strings.Join(l, " ") + ")"
	}
	return strconv.Itoa(v.Kind) + ":" + strconv.FormatUint(v.Lo, 10)
}

// blind returns a text of a value that tells no numbers of objects.
func blind(v api.Value) string {
	if v.Kind == api.ValObject {
		return "#"
	}
	s := strconv.Itoa(v.Kind) + ":" + strconv.FormatUint(v.Lo, 10)
	for _, k := range v.Kids {
		s += " " + blind(k)
	}
	return s
}

// mixed returns some number that depends on a text and on values.
func mixed(text string, args []api.Value) api.Value {
	for _, v := range args {
		text += "," + blind(v)
	}
	h := uint32(2166136261)
	for _, c := range []byte(text) {
		h = (h ^ uint32(c)) * 16777619
	}
	v, _ := num.Of("U8", uint64(h>>8%7))
	return v
}

func truth(is bool) api.Value {
	if is {
		return api.Value{Kind: api.ValBool, Lo: 1}
	}
	return api.Value{Kind: api.ValBool}
}

// effect notes an effect.
func (d *player) effect(what string, args []api.Value) {
	for _, v := range args {
		what += " " + d.show(v)
	}
	d.out = append(d.out, what)
}

func (d *player) made() api.Value {
	d.objects++
	return api.Value{Kind: api.ValObject, Lo: d.objects}
}

// frame is a function that is run.
type frame struct {
	*player
	values map[int]api.Value
	locals map[string]api.Value
	depth  int
}

func (d *player) run(f ssa.Func, args []api.Value, depth int) (api.Value, bool) {
	if depth > 20 {
		panic(ended("steps"))
	}
	w := &frame{d, map[int]api.Value{}, map[string]api.Value{}, depth}
	for k, v := range args {
		w.values[k] = v
	}
	preds, _ := ssa.Preds(f)
	from, way := -1, 0
	for at := 0; ; {
		if d.left--; d.left < 0 {
			panic(ended("steps"))
		}
		w.block(f.Blocks[at].Ins, preds[at], f, from, way)
		x := f.Blocks[at].End
		from, way = at, 0
		switch x.Kind {
		case ssa.Branch:
			if !values.Same(w.values[x.Args[0]], truth(true)) {
				way = 1
			}
		case ssa.Return:
			return w.values[x.Args[0]], false
		case ssa.Error:
			return api.Value{}, true
		case ssa.Stuck:
			panic(ended("stuck"))
		case ssa.Try:
			v, raised := w.call(x.Call, w.args(x.Call.Args))
			if raised {
				way = 1
			} else {
				w.values[x.Call.Result] = v
			}
		}
		at = x.To[way]
	}
}

func (w *frame) args(l []int) []api.Value {
	var out []api.Value
	for _, v := range l {
		out = append(out, w.values[v])
	}
	return out
}

// block performs the instructions of a block that is entered by a way from another one.
func (w *frame) block(l []ssa.Ins, preds []int, f ssa.Func, from, way int) {
	edge := 0
	for k, p := range preds {
		if p == from {
			edge = k
			break
		}
	}
	if x := (ssa.End{}); from >= 0 {
		x = f.Blocks[from].End
		if way == 1 && x.To[0] == x.To[1] {
			edge++
		}
	}
	phis := map[int]api.Value{}
	for _, i := range l {
		if i.Op == ssa.Phi {
			phis[i.Result] = w.values[i.Args[edge]]
		}
	}
	for k, v := range phis {
		w.values[k] = v
	}
	for _, i := range l {
		if i.Op != ssa.Phi {
			w.values[i.Result] = w.perform(i, w.args(i.Args))
		}
	}
}

// call performs a call or a direct, and tells whether it raised an error.
func (w *frame) call(i ssa.Ins, args []api.Value) (api.Value, bool) {
	if i.Op == ssa.Direct {
		for _, f := range w.Funcs {
			if f.Name == i.Text {
				return w.run(f, args, w.depth+1)
			}
		}
	}
	w.effect("call "+i.Text, args)
	v := mixed(i.Text+strconv.Itoa(len(w.out)), args)
	return v, v.Lo == 0
}

func (w *frame) perform(i ssa.Ins, l []api.Value) api.Value {
	switch i.Op {
	case ssa.Const:
		return i.Lit
	case ssa.Text, ssa.Make:
		return w.made()
	case ssa.Load:
		return w.locals[i.Text]
	case ssa.Store:
		old := w.locals[i.Text]
		w.locals[i.Text] = l[0]
		return old
	case ssa.Get:
		return w.fields[place{l[0].Lo + uint64(l[0].Kind)<<32, i.Text}]
	case ssa.Set:
		w.effect("set "+i.Text, l)
		at := place{l[0].Lo + uint64(l[0].Kind)<<32, i.Text}
		old := w.fields[at]
		w.fields[at] = l[1]
		return old
	case ssa.Native:
		typ, method, _ := strings.Cut(i.Text, ".")
		if v, raised, e := num.Call(typ, method, l); e == api.OK && !raised {
			return v
		}
		return mixed(i.Text, l)
	case ssa.Spawn, ssa.Send:
		w.effect("send "+i.Name+" "+i.Text, l)
		return mixed("sent", nil)
	case ssa.Tuple:
		v := api.Value{Kind: api.ValTuple, Kids: l}
		if parts, _ := values.Size(v); parts > 200 {
			panic(ended("steps")) // a tuple that a loop doubles has no end
		}
		return v
	case ssa.Item:
		if l[0].Kind == api.ValTuple && i.N < len(l[0].Kids) {
			return l[0].Kids[i.N]
		}
		return mixed("item"+strconv.Itoa(i.N), l)
	case ssa.Is:
		return truth(values.Same(l[0], l[1]))
	case ssa.Fits:
		return truth(mixed("fits "+i.Type.Name, l).Lo%2 == 0)
	}
	v, raised := w.call(i, l)
	if raised {
		panic(ended("wrong"))
	}
	return v
}
