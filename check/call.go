package check

import (
	"hackamore/api"
	"hackamore/cap"
	"hackamore/types"
)

func (n node) call() (api.Type, api.Errno) {
	of := n.kids[0]
	if isZero(of) {
		return api.Type{}, api.ErrType
	}
	m, ok := n.lookup(of, n.x.Text)
	switch {
	case !ok:
		return api.Type{}, api.ErrNone
	case m.Kind == api.New:
		return api.Type{}, ErrPlace
	}
	self, e := n.self(m, parts(of))
	if e == api.OK {
		e = n.arguments(m, self, n.kids[1:])
	}
	switch {
	case e != api.OK:
		return api.Type{}, e
	case m.Kind == api.Be || isZero(m.Result):
		return none(), api.OK
	}
	return types.Self(m.Result, self, api.Plain)
}

// self returns the capability that the types of a method see its receiver with, if this has some parts.
func (n node) self(m api.Method, parts []api.Type) (int, api.Errno) {
	if m.Kind != api.Fun {
		return api.Tag, api.OK
	}
	c := counted(parts[0])
	for _, t := range parts {
		if t.Kind != api.TypeName || counted(t) != c {
			return 0, api.ErrType
		}
	}
	given := isNone(m.Body)
	for _, t := range parts {
		if !cap.Fits(t.Cap, t.Mark, m.Cap, api.Plain) {
			return 0, ErrView
		}
		x, ok := n.entity(t.Name)
		given = given && ok && isConcrete(x) && Builtin(x.Name)
	}
	if given {
		return c, api.OK
	}
	return m.Cap, api.OK
}

// arguments returns the error of what a method gets.
func (n node) arguments(m api.Method, self int, args []api.Type) api.Errno {
	if len(args) != len(m.Params) {
		return ErrArgs
	}
	for i, p := range m.Params {
		want, e := types.Self(p.Type, self, api.Plain)
		if e != api.OK {
			return e
		}
		if !n.fits(args[i], want) {
			return ErrArgs
		}
	}
	return api.OK
}

func (n node) construct() (api.Type, api.Errno) {
	x, m, e := n.constructor(n.x)
	if e == api.OK {
		e = n.arguments(m, receiver(x, m), n.kids)
	}
	if e != api.OK {
		return api.Type{}, e
	}
	return types.Consumed(types.Named(x.Name, m.Cap, nil))
}
