package subtype

import (
	"iter"
	"slices"

	"hackamore/api"
	"hackamore/exprs"
	"hackamore/types"
)

// program has entities by their names, and keeps methods that were found.
type program struct {
	list  []api.Entity
	index map[string]int
	lists map[string][]api.Method // of the types with these texts
	found map[[2]string]found     // of the types with these texts, and of these names
}

// found is a method, if there is one.
type found struct {
	api.Method
	ok bool
}

func newProgram(p []api.Entity) program {
	index := map[string]int{}
	for i, x := range p {
		if _, ok := index[x.Name]; !ok {
			index[x.Name] = i
		}
	}
	return program{p, index, map[string][]api.Method{}, map[[2]string]found{}}
}

// Find returns the index of an entity.
func Find(p []api.Entity, name string) (int, api.Errno) {
	i := slices.IndexFunc(p, func(x api.Entity) bool { return x.Name == name })
	if i < 0 {
		return 0, api.ErrNone
	}
	return i, api.OK
}

// entity returns the entity of an entity's type.
func (g program) entity(t api.Type) (api.Entity, bool) {
	i, ok := g.index[t.Name]
	if t.Kind != api.TypeName || !ok || len(g.list[i].Bounds) != len(t.Args) {
		return api.Entity{}, false
	}
	return g.list[i], true
}

// isInterface reports whether a type is the entity's type of an interface.
func (g program) isInterface(t api.Type) bool {
	x, ok := g.entity(t)
	return ok && x.Kind == api.Interface
}

func names(l []api.Bound) []string {
	var out []string
	for _, b := range l {
		out = append(out, b.Name)
	}
	return out
}

// supers hands on the supertypes of a name's type, with their numbers.
func (g program) supers(t api.Type) iter.Seq2[int, api.Type] {
	return func(yield func(int, api.Type) bool) {
		l := []api.Type{t}
		for i := 0; i < len(l); i++ {
			if !yield(i, l[i]) {
				return
			}
			l = g.provided(l, i)
		}
	}
}

// provided returns supertypes with those that the one with an index provides.
func (g program) provided(l []api.Type, i int) []api.Type {
	x, _ := g.entity(l[i])
	params := names(x.Bounds)
	for _, t := range x.Provides {
		if len(l) >= MaxSupers {
			break
		}
		s, e := types.Subst(t, params, l[i].Args)
		if _, ok := g.entity(s); e != api.OK || !ok {
			continue
		}
		s.Cap, s.Mark = l[0].Cap, l[0].Mark
		if !slices.ContainsFunc(l, func(old api.Type) bool { return types.Equal(old, s) }) {
			l = append(l, s)
		}
	}
	return l
}

// candidates hands on the methods of all supertypes of a name's type, ahead of the replacement of type parameters, with those and
// what stands for them.
func (g program) candidates(t api.Type) iter.Seq2[api.Method, func(m api.Method) (api.Method, api.Errno)] {
	return func(yield func(api.Method, func(m api.Method) (api.Method, api.Errno)) bool) {
		for _, s := range g.supers(t) {
			x, _ := g.entity(s)
			params := names(x.Bounds)
			replace := func(m api.Method) (api.Method, api.Errno) { return types.Method(m, params, s.Args) }
			for _, m := range x.Methods {
				if !yield(m, replace) {
					return
				}
			}
		}
	}
}

// search hands on the methods of a name's type, as they are looked for.
func (g program) search(t api.Type) iter.Seq[api.Method] {
	return func(yield func(api.Method) bool) {
		seen := map[string]bool{}
		for m, replace := range g.candidates(t) {
			if seen[m.Name] {
				continue
			}
			r, e := replace(m)
			if e != api.OK {
				continue
			}
			seen[m.Name] = true
			if !yield(r) {
				return
			}
		}
	}
}

// lookup looks for the method of a name's type with a name.
func (g program) lookup(t api.Type, name string) (api.Method, bool) {
	for m, replace := range g.candidates(t) {
		if m.Name != name {
			continue
		}
		if r, e := replace(m); e == api.OK {
			return r, true
		}
	}
	return api.Method{}, false
}

// methodsOf hands on the methods of an entity's type, without their bodies.
func (g program) methodsOf(t api.Type) iter.Seq[api.Method] {
	key, _ := types.Text(t)
	l, ok := g.lists[key]
	if !ok {
		for m := range g.search(t) {
			m.Body = api.Expr{}
			l = append(l, m)
		}
		g.lists[key] = l
	}
	return slices.Values(l)
}

// method returns the method of an entity's type with a name, without its body.
func (g program) method(t api.Type, name string) (api.Method, bool) {
	text, _ := types.Text(t)
	key := [2]string{text, name}
	f, ok := g.found[key]
	if !ok {
		f.Method, f.ok = g.lookup(t, name)
		f.Body = api.Expr{}
		g.found[key] = f
	}
	return f.Method, f.ok
}

// entityType returns the error of a type that is to be an entity's.
func (g program) entityType(t api.Type) api.Errno {
	if e := types.Check(t); e != api.OK {
		return e
	}
	if len(g.list) > api.MaxUnits {
		return api.ErrSize
	}
	if t.Kind != api.TypeName {
		return api.ErrType
	}
	if _, ok := g.index[t.Name]; !ok {
		return api.ErrNone
	}
	if _, ok := g.entity(t); !ok {
		return api.ErrSize
	}
	return api.OK
}

// Supers returns all supertypes that an entity's type has by name, itself first.
func Supers(p []api.Entity, t api.Type) ([]api.Type, api.Errno) {
	g := newProgram(p)
	if e := g.entityType(t); e != api.OK {
		return nil, e
	}
	var l []api.Type
	for _, s := range g.supers(t) {
		l = append(l, exprs.CloneType(s))
	}
	return l, api.OK
}

// Methods returns all methods that values of an entity's type have.
func Methods(p []api.Entity, t api.Type) ([]api.Method, api.Errno) {
	g := newProgram(p)
	if e := g.entityType(t); e != api.OK {
		return nil, e
	}
	return slices.Collect(g.search(t)), api.OK
}

// Lookup returns a method that values of a type have.
func Lookup(p []api.Entity, t api.Type, name string) (api.Method, api.Errno) {
	if e := types.Check(t); e != api.OK {
		return api.Method{}, e
	}
	if len(p) > api.MaxUnits {
		return api.Method{}, api.ErrSize
	}
	m, ok := newProgram(p).within(t, name)
	if !ok {
		return api.Method{}, api.ErrNone
	}
	return m, api.OK
}

// within returns the method with a name that all values of a type have.
func (g program) within(t api.Type, name string) (api.Method, bool) {
	switch t.Kind {
	case api.TypeName:
		return g.lookup(t, name)
	case api.TypeBoth:
		for _, a := range t.Args {
			if m, ok := g.within(a, name); ok {
				return m, true
			}
		}
	case api.TypeUnion:
		first, ok := g.within(t.Args[0], name)
		for _, a := range t.Args[1:] {
			m, has := g.within(a, name)
			ok = ok && has && isEqual(first, m)
		}
		if ok {
			return first, true
		}
	}
	return api.Method{}, false
}
