package subtype

import (
	"slices"

	"hackamore/api"
	"hackamore/cap"
	"hackamore/types"
)

// isEqual reports whether two methods are equal but for their bodies.
func isEqual(m, n api.Method) bool {
	return m.Kind == n.Kind && m.Name == n.Name && m.Cap == n.Cap && m.Partial == n.Partial && types.Equal(m.Result, n.Result) &&
		slices.EqualFunc(m.Bounds, n.Bounds, func(a, b api.Bound) bool { return a.Name == b.Name && types.Equal(a.Type, b.Type) }) &&
		slices.EqualFunc(m.Params, n.Params, func(a, b api.Param) bool { return a.Name == b.Name && types.Equal(a.Type, b.Type) })
}

// isZero reports whether a type is the zero Type; one of the Kind 0 with another field is no type at all.
func isZero(t api.Type) bool { return types.Equal(t, api.Type{}) }

// fitsReceiver reports whether a method may be called, or what it makes be held, where another one is wanted.
func fitsReceiver(m, n api.Method) bool {
	switch m.Kind {
	case api.Fun:
		return cap.Fits(n.Cap, api.Plain, m.Cap, api.Plain)
	case api.New:
		return cap.Fits(m.Cap, api.Ephemeral, n.Cap, api.Plain)
	}
	return true
}

// receiver returns the capability that a method's types see the receiver with.
func receiver(m api.Method) int {
	if m.Kind == api.Fun {
		return m.Cap
	}
	return api.Tag
}

// meaning returns what a type of a method means for its receiver.
type meaning func(t api.Type) (api.Type, api.Errno)

// own returns the meaning of a method's types.
func own(m api.Method) meaning {
	return func(t api.Type) (api.Type, api.Errno) { return types.Self(t, receiver(m), api.Plain) }
}

// renamed returns the meaning of the types of a method n, with the type parameters of m in the place of its own.
func renamed(m, n api.Method) meaning {
	mean := own(n)
	if len(n.Bounds) == 0 {
		return mean
	}
	var args []api.Type
	for _, b := range m.Bounds {
		args = append(args, api.Type{Kind: api.TypeParam, Name: b.Name})
	}
	return func(t api.Type) (api.Type, api.Errno) {
		t, e := types.Subst(t, names(n.Bounds), args)
		if e != api.OK {
			return api.Type{}, e
		}
		return mean(t)
	}
}

// compared asks of two methods, m and the wanted one n, what is asked without questions, and returns the questions.
func compared(m, n api.Method, bare bool) ([]pair, bool) {
	if m.Kind != n.Kind || m.Name != n.Name || len(m.Params) != len(n.Params) || len(m.Bounds) != len(n.Bounds) || m.Partial && !n.Partial {
		return nil, false
	}
	if !bare && !fitsReceiver(m, n) {
		return nil, false
	}
	mine, theirs := own(m), renamed(m, n)
	both := func(x, y api.Type) (pair, bool) {
		x, e := mine(x)
		y, e2 := theirs(y)
		return pair{x, y}, e == api.OK && e2 == api.OK
	}
	for i, b := range m.Bounds {
		if x, ok := both(b.Type, n.Bounds[i].Type); !ok || !types.Equal(x[0], x[1]) {
			return nil, false
		}
	}
	var l []pair
	for i, p := range m.Params {
		x, ok := both(p.Type, n.Params[i].Type)
		if !ok {
			return nil, false
		}
		l = append(l, pair{x[1], x[0]})
	}
	if none, wanted := isZero(m.Result), isZero(n.Result); none || wanted {
		return l, none == wanted
	}
	x, ok := both(m.Result, n.Result)
	return append(l, x), ok
}
