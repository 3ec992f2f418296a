package generic

import (
	"slices"

	"hackamore/api"
	"hackamore/exprs"
	"hackamore/subtype"
	"hackamore/types"
)

// Find returns the method of an entity with a name, and the name of the entity whose body it has.
func Find(p []api.Entity, entity, name string) (api.Method, string, api.Errno) {
	if !isSmall(p) {
		return api.Method{}, "", api.ErrSize
	}
	i, e := subtype.Find(p, entity)
	if e != api.OK {
		return api.Method{}, "", e
	}
	s, e := newSelector(p, p[i])
	if e != api.OK {
		return api.Method{}, "", e
	}
	m, from, e := s.find(name)
	if e != api.OK {
		return api.Method{}, "", e
	}
	return exprs.CloneMethod(m), from, api.OK
}

func hasBody(m api.Method) bool { return !exprs.IsNone(m.Body) }

// isCalled reports whether a method is a function or a behaviour.
func isCalled(m api.Method) bool { return m.Kind == api.Fun || m.Kind == api.Be }

// selector selects the methods of an entity.
type selector struct {
	program []api.Entity
	entity  api.Entity
	own     api.Type
	supers  []api.Type // but itself
}

func newSelector(p []api.Entity, x api.Entity) (selector, api.Errno) {
	var args []api.Type
	for _, b := range x.Bounds {
		args = append(args, api.Type{Kind: api.TypeParam, Name: b.Name})
	}
	own := types.Named(x.Name, api.Val, args)
	l, e := subtype.Supers(p, own)
	if e != api.OK {
		return selector{}, e
	}
	return selector{p, x, own, l[1:]}, api.OK
}

// candidate is a method that a supertype gives.
type candidate struct {
	api.Method
	super api.Type
}

// candidates returns the candidates of a name.
func (s selector) candidates(name string) []candidate {
	var l []candidate
	for _, t := range s.supers {
		i, _ := subtype.Find(s.program, t.Name)
		params := names(s.program[i].Bounds)
		for _, m := range s.program[i].Methods {
			if m.Name != name || !isCalled(m) {
				continue
			}
			if r, e := types.Method(m, params, t.Args); e == api.OK {
				l = append(l, candidate{r, t})
			}
		}
	}
	return l
}

// isClear reports whether a default comes from below all other candidates with a body.
func (s selector) isClear(chosen candidate, l []candidate) bool {
	below, _ := subtype.Supers(s.program, chosen.super)
	return !slices.ContainsFunc(l, func(c candidate) bool {
		return hasBody(c.Method) && !slices.ContainsFunc(below, func(t api.Type) bool { return types.Equal(t, c.super) })
	})
}

// find returns the method with a name, and the entity that its body comes from.
func (s selector) find(name string) (api.Method, string, api.Errno) {
	i := slices.IndexFunc(s.entity.Methods, func(m api.Method) bool { return m.Name == name })
	if i >= 0 && hasBody(s.entity.Methods[i]) {
		return s.entity.Methods[i], s.entity.Name, api.OK
	}
	l := s.candidates(name)
	first := slices.IndexFunc(l, func(c candidate) bool { return hasBody(c.Method) })
	switch {
	case first >= 0 && !s.isClear(l[first], l):
		return api.Method{}, "", ErrMethod
	case first >= 0 && i >= 0:
		m := s.entity.Methods[i]
		m.Body = l[first].Body
		return m, l[first].super.Name, api.OK
	case first >= 0:
		return l[first].Method, l[first].super.Name, api.OK
	case i >= 0:
		return s.entity.Methods[i], s.entity.Name, api.OK
	case len(l) == 0 || isConcrete(s.entity):
		return api.Method{}, "", ErrMethod
	}
	return l[0].Method, l[0].super.Name, api.OK
}

// Whole returns a program in which each concrete entity has all its methods itself.
func Whole(p []api.Entity) ([]api.Entity, api.Errno) {
	if !isSmall(p) {
		return nil, api.ErrSize
	}
	var out []api.Entity
	seen := map[string]bool{}
	for _, x := range p {
		whole := x
		if isConcrete(x) && !seen[x.Name] {
			l, e := allMethods(p, x)
			if e != api.OK {
				return nil, e
			}
			whole.Methods = l
		}
		seen[x.Name] = true
		out = append(out, exprs.CloneEntity(whole))
	}
	return out, api.OK
}

// allMethods returns the methods that a concrete entity has.
func allMethods(p []api.Entity, x api.Entity) ([]api.Method, api.Errno) {
	s, e := newSelector(p, x)
	if e != api.OK {
		return nil, e
	}
	var out []api.Method
	has := map[string]bool{}
	for _, m := range x.Methods {
		has[m.Name] = true
		if m.Kind != api.New {
			found, _, e := s.find(m.Name)
			if e != api.OK {
				return nil, e
			}
			if !hasBody(m) {
				m.Body = found.Body
			}
		}
		out = append(out, m)
	}
	given, e := subtype.Methods(p, s.own)
	if e != api.OK {
		return nil, e
	}
	for _, m := range given {
		if !isCalled(m) || has[m.Name] {
			continue
		}
		found, _, e := s.find(m.Name)
		if e != api.OK {
			return nil, e
		}
		out = append(out, found)
	}
	return out, api.OK
}
