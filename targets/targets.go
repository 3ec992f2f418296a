// Package targets finds which functions a call of a method can reach by the type of its receiver.
package targets

import (
	"slices"

	"hackamore/api"
	"hackamore/ssa"
	"hackamore/subtype"
	"hackamore/types"
)

// question is a type, as a text, and the name of a method.
type question struct{ typ, method string }

// answer is what was found.
type answer struct {
	list []string
	e    api.Errno
}

// Finder finds the targets of calls in a program.
type Finder struct {
	entities []api.Entity
	funcs    map[string]bool
	known    map[question]answer
}

// New returns a finder for a program.
func New(p ssa.Program) *Finder {
	f := &Finder{p.Entities, map[string]bool{}, map[question]answer{}}
	for _, x := range p.Funcs {
		f.funcs[x.Name] = true
	}
	return f
}

// Of returns the names of the functions that a call of a method can reach for a value of a type, ascending: the error of the type, or
// ErrNone, if one of them is none.
func (f *Finder) Of(t api.Type, method string) ([]string, api.Errno) {
	if e := types.Check(t); e != api.OK {
		return nil, e
	}
	text, _ := types.Text(t)
	q := question{text, method}
	a, ok := f.known[q]
	if !ok {
		a = f.find(t, method)
		f.known[q] = a
	}
	return slices.Clone(a.list), a.e
}

func (f *Finder) find(t api.Type, method string) answer {
	var l []string
	for _, x := range f.entities {
		if x.Kind != api.Class && x.Kind != api.Actor && x.Kind != api.Primitive || !f.takes(t, x.Name) {
			continue
		}
		name := x.Name + "." + method
		if !f.funcs[name] {
			return answer{nil, api.ErrNone}
		}
		l = append(l, name)
	}
	slices.Sort(l)
	return answer{slices.Compact(l), api.OK}
}

// takes reports whether a type takes the values of an entity.
func (f *Finder) takes(t api.Type, name string) bool {
	takes := func(t api.Type) bool { return f.takes(t, name) }
	refuses := func(t api.Type) bool { return !f.takes(t, name) }
	switch t.Kind {
	case api.TypeArrow:
		return takes(t.Args[1])
	case api.TypeUnion:
		return slices.ContainsFunc(t.Args, takes)
	case api.TypeBoth:
		return !slices.ContainsFunc(t.Args, refuses)
	}
	return subtype.Bare(f.entities, types.Named(name, api.Val, nil), t)
}
