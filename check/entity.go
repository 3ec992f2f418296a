package check

import (
	"cmp"
	"slices"

	"hackamore/api"
	"hackamore/cap"
	"hackamore/subtype"
	"hackamore/types"
)

// declaration returns the first error of an entity, without its bodies.
func (g *program) declaration(i int) (Fault, api.Errno) {
	x := g.list[i]
	if e := cmp.Or(g.head(i), g.provided(x), fields(x)); e != api.OK {
		return Fault{Entity: i, Method: -1}, e
	}
	for j := range x.Methods {
		if e := method(x, j); e != api.OK {
			return Fault{Entity: i, Method: j}, e
		}
	}
	return Fault{}, api.OK
}

// head returns the error of an entity's name, kind, capability and sizes.
func (g *program) head(i int) api.Errno {
	x := g.list[i]
	switch {
	case slices.ContainsFunc(g.list[:i], func(y api.Entity) bool { return y.Name == x.Name }):
		return api.ErrTwice
	case x.Kind < api.Class || x.Kind > api.Interface || !cap.Is(x.Cap) || len(x.Bounds) > 0:
		return api.ErrForm
	case len(x.Provides) > api.MaxList || len(x.Fields) > api.MaxList || len(x.Methods) > api.MaxList:
		return api.ErrSize
	}
	return api.OK
}

// provided returns the error of what an entity provides.
func (g *program) provided(x api.Entity) api.Errno {
	for _, t := range x.Provides {
		y, ok := g.entity(t.Name)
		isNamed := t.Kind == api.TypeName && len(t.Args) == 0 && types.Reified(t) && ok
		isOpen := y.Kind == api.Interface || y.Kind == api.Trait && x.Kind != api.Interface
		if !isNamed || !isOpen || g.leadsTo(t, x.Name) {
			return ErrEntity
		}
	}
	return api.OK
}

// leadsTo reports whether a supertype of a type has a name.
func (g *program) leadsTo(t api.Type, name string) bool {
	l, e := subtype.Supers(g.list, t)
	if e != api.OK {
		l = []api.Type{t}
	}
	return slices.ContainsFunc(l, func(s api.Type) bool { return s.Name == name })
}

// fields returns the error of the fields of an entity.
func fields(x api.Entity) api.Errno {
	if len(x.Fields) > 0 && !hasFields(x) {
		return ErrEntity
	}
	for i, f := range x.Fields {
		if slices.ContainsFunc(x.Fields[:i], func(y api.Field) bool { return y.Name == f.Name }) {
			return api.ErrTwice
		}
		if !isHeld(f.Type) {
			return api.ErrForm
		}
	}
	return api.OK
}

// method returns the error of a method, without its body's.
func method(x api.Entity, i int) api.Errno {
	m := x.Methods[i]
	isBare := isNone(m.Body)
	switch {
	case slices.ContainsFunc(x.Methods[:i], func(y api.Method) bool { return y.Name == m.Name }):
		return api.ErrTwice
	case m.Kind < api.New || m.Kind > api.Be || !cap.Is(m.Cap) || len(m.Bounds) > 0 || len(m.Params) > api.MaxList:
		return api.ErrForm
	case isDoubled(m.Params):
		return api.ErrTwice
	case !hasTypes(m):
		return api.ErrForm
	case !isOf(m, x):
		return ErrEntity
	case getsFromAfar(m, x) && slices.ContainsFunc(m.Params, func(p api.Param) bool { return !types.Sendable(p.Type) }):
		return ErrSend
	case isBare && isConcrete(x) && !Builtin(x.Name), !isBare && x.Kind == api.Interface:
		return ErrPlace
	}
	return api.OK
}

// isDoubled reports whether two parameters have one name.
func isDoubled(l []api.Param) bool {
	seen := map[string]bool{}
	for _, p := range l {
		if seen[p.Name] {
			return true
		}
		seen[p.Name] = true
	}
	return false
}

// hasTypes reports whether the types of a method's parameters and its result are as they have to be.
func hasTypes(m api.Method) bool {
	takes := func(t api.Type) bool {
		_, e := types.Self(t, m.Cap, api.Plain)
		return e == api.OK && len(types.Params(t)) == 0 && isEven(t)
	}
	for _, p := range m.Params {
		if !takes(p.Type) {
			return false
		}
	}
	return isZero(m.Result) || takes(m.Result)
}

// isOf reports whether a method of its kind may stand in an entity.
func isOf(m api.Method, x api.Entity) bool {
	switch m.Kind {
	case api.New:
		return x.Kind == api.Class || x.Kind == api.Actor && m.Cap == api.Tag && !m.Partial || x.Kind == api.Primitive && m.Cap == api.Val
	case api.Be:
		return x.Kind != api.Class && x.Kind != api.Primitive && isNothing(m.Result) && !m.Partial
	}
	return true
}

// getsFromAfar reports whether the arguments of a method come from another actor, or go into what is sent to one.
func getsFromAfar(m api.Method, x api.Entity) bool {
	switch m.Kind {
	case api.New:
		return x.Kind == api.Actor || x.Kind == api.Class && (m.Cap == api.Iso || m.Cap == api.Trn || m.Cap == api.Val)
	case api.Be:
		return true
	}
	return false
}

// keeps reports whether an entity has the methods of all that it provides.
func (g *program) keeps(x api.Entity) bool {
	own := types.Named(x.Name, api.Ref, nil)
	isPassive := x.Kind == api.Class || x.Kind == api.Primitive
	for _, t := range x.Provides {
		l, _ := subtype.Methods(g.list, t)
		for _, n := range l {
			m, ok := g.lookup(own, n.Name)
			switch {
			case n.Kind == api.Be && isPassive, !ok, !subtype.Method(g.list, m, n):
				return false
			case isConcrete(x) && !Builtin(x.Name) && isNone(m.Body):
				return false
			}
		}
	}
	return true
}
