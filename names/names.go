// Package names is layer 6: modules resolved to programs of entities. See shared/doc/06-names.md.
package names

import (
	"maps"
	"slices"

	"hackamore/api"
	"hackamore/exprs"
	"hackamore/parser"
	"hackamore/sugar"
)

// Errors of this layer.
const (
	ErrUse     api.Errno = 80 // a package that is not there
	ErrKind    api.Errno = 81 // a name of another kind than is wanted
	ErrArity   api.Errno = 82 // another number of type arguments
	ErrCycle   api.Errno = 83 // aliases that lead to themselves, or uses in a circle
	ErrLiteral api.Errno = 84 // a literal out of the range of its type
	ErrMain    api.Errno = 85 // no main actor
)

// Source is a module: its package, its path of nodes for errors is told by its index.
type Source struct {
	Package string
	Tree    api.Node
}

// Fault is where a program is wrong: the source and the path of the node.
type Fault struct {
	Source int
	Path   []int
}

// fault is what panics when something is wrong.
type fault struct {
	place Fault
	code  api.Errno
}

// Resolve returns the program of plain trees.
func Resolve(l []Source, flags []string) (p []api.Entity, place Fault, e api.Errno) {
	defer func() {
		x := recover()
		if x == nil {
			return
		}
		f, ok := x.(fault)
		if !ok {
			panic(x)
		}
		p, place, e = nil, f.place, f.code
	}()
	r := newResolver(flags)
	for i, s := range l {
		if !isSource(s) {
			panic(fault{Fault{Source: i}, api.ErrArg})
		}
		r.add(i, s)
	}
	p = r.program()
	if isFull(p) {
		return nil, Fault{}, api.ErrFull
	}
	return p, Fault{}, api.OK
}

// isFull reports whether there are too many entities, or one of them lists too much.
func isFull(p []api.Entity) bool {
	return len(p) > api.MaxUnits || slices.ContainsFunc(p, listsTooMuch)
}

// Program reads, desugars and resolves texts of modules by their packages.
func Program(texts map[string]string, flags []string) ([]api.Entity, api.Errno) {
	var l []Source
	for _, name := range slices.Sorted(maps.Keys(texts)) {
		tree, _, e := parser.Parse(texts[name])
		if e != api.OK {
			return nil, e
		}
		plain, _, e := sugar.Module(tree, flags)
		if e != api.OK {
			return nil, e
		}
		l = append(l, Source{name, plain})
	}
	p, _, e := Resolve(l, flags)
	if e != api.OK {
		return nil, e
	}
	if !hasMain(p) {
		return nil, ErrMain
	}
	return p, api.OK
}

func hasMain(p []api.Entity) bool {
	env := named("Env", api.Val)
	entity, _ := Find(p, "main.Main")
	if entity.Kind != api.Actor {
		return false
	}
	return slices.ContainsFunc(entity.Methods, func(m api.Method) bool {
		return m.Kind == api.New && m.Name == "create" && len(m.Params) == 1 && exprs.EqualType(m.Params[0].Type, env)
	})
}

// Find returns the entity with a name.
func Find(p []api.Entity, name string) (api.Entity, bool) {
	for _, x := range p {
		if x.Name == name {
			return x, true
		}
	}
	return api.Entity{}, false
}
