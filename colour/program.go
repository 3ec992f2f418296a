package colour

import (
	"slices"
	"sort"
	"strings"

	"hackamore/api"
	"hackamore/edit"
	"hackamore/ssa"
)

// namer has the names of a program by their numbers.
type namer struct {
	ssa.Program
	classes, selectors, methods []string
	class, method               map[string]int // the first ones with a name
}

// Of returns the world of a program, with the names of its classes, its selectors and its methods.
func Of(p ssa.Program, roots []string) (w World, classes, selectors, methods []string, e api.Errno) {
	if _, e := ssa.Check(p); e != api.OK {
		return World{}, nil, nil, nil, e
	}
	n := newNamer(p)
	if len(n.selectors) > mostSelectors || len(n.classes) > api.MaxUnits {
		return World{}, nil, nil, nil, api.ErrSize
	}
	for _, name := range roots {
		m, ok := n.method[name]
		if !ok {
			return World{}, nil, nil, nil, api.ErrNone
		}
		w.Roots = append(w.Roots, m)
	}
	for c, name := range n.classes {
		w.Classes = append(w.Classes, n.entries(c, name))
	}
	for _, f := range p.Funcs {
		w.Bodies = append(w.Bodies, n.body(f))
	}
	if e := Check(w); e != api.OK {
		return World{}, nil, nil, nil, e
	}
	return w, n.classes, n.selectors, n.methods, api.OK
}

func newNamer(p ssa.Program) *namer {
	n := &namer{Program: p, class: map[string]int{}, method: map[string]int{}}
	for _, x := range p.Entities {
		if x.Kind != api.Class && x.Kind != api.Actor && x.Kind != api.Primitive {
			continue
		}
		if _, ok := n.class[x.Name]; !ok {
			n.class[x.Name] = len(n.classes)
		}
		n.classes = append(n.classes, x.Name)
	}
	for m, f := range p.Funcs {
		n.methods = append(n.methods, f.Name)
		n.method[f.Name] = m
		n.selectors = append(n.selectors, n.part(f.Name)...)
		for i := range edit.Instructions(f) {
			if i.Op == ssa.Call || i.Op == ssa.Send {
				n.selectors = append(n.selectors, i.Text)
			}
		}
	}
	slices.Sort(n.selectors)
	n.selectors = slices.Compact(n.selectors)
	return n
}

// part returns what stands in a name behind that of a class and a dot: of the first class that fits.
func (n *namer) part(name string) []string {
	for _, c := range n.classes {
		if selector, ok := strings.CutPrefix(name, c+"."); ok {
			return []string{selector}
		}
	}
	return nil
}

// entries returns the entries of a class.
func (n *namer) entries(class int, name string) []Entry {
	if n.class[name] != class {
		return nil
	}
	var l []Entry
	for s, selector := range n.selectors {
		if m, ok := n.method[name+"."+selector]; ok {
			l = append(l, Entry{s, m})
		}
	}
	return l
}

// body returns what a function does.
func (n *namer) body(f ssa.Func) Body {
	var b Body
	method := func(name string) {
		if m, ok := n.method[name]; ok {
			b.Methods = append(b.Methods, m)
		}
	}
	class := func(name string) {
		if c, ok := n.class[name]; ok {
			b.Classes = append(b.Classes, c)
		}
	}
	for i := range edit.Instructions(f) {
		switch i.Op {
		case ssa.Call, ssa.Send:
			b.Selectors = append(b.Selectors, sort.SearchStrings(n.selectors, i.Text))
		case ssa.Direct:
			method(i.Text)
		case ssa.Spawn:
			method(i.Name + "." + i.Text)
			class(i.Name)
		case ssa.Make:
			class(i.Text)
		case ssa.Text:
			class("String")
		}
		if (i.Op == ssa.Const || i.Op == ssa.Text || i.Op == ssa.Native) && i.Type.Kind == api.TypeName {
			class(i.Type.Name)
		}
	}
	return Body{once(b.Selectors), once(b.Methods), once(b.Classes)}
}

// once returns numbers ascending, each once.
func once(l []int) []int {
	slices.Sort(l)
	return slices.Compact(l)
}
