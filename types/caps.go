package types

import (
	"slices"

	"hackamore/api"
	"hackamore/cap"
	"hackamore/exprs"
)

// counted returns what counts of the capability and the mark of a part.
func counted(t api.Type) int {
	switch {
	case t.Cap == api.Iso && t.Mark == api.Aliased:
		return api.Tag
	case t.Cap == api.Trn && t.Mark == api.Aliased:
		return api.Box
	}
	return t.Cap
}

// change is what becomes of a part, or of an arrow.
type change func(t api.Type) (api.Type, api.Errno)

// changed returns a type, as new memory, whose parts and arrows are changed.
func changed(t api.Type, part, arrow change) (api.Type, api.Errno) {
	switch t.Kind {
	case api.TypeArrow:
		return arrow(t)
	case api.TypeUnion, api.TypeBoth, api.TypeTuple:
		var args []api.Type
		for _, a := range t.Args {
			r, e := changed(a, part, arrow)
			if e != api.OK {
				return api.Type{}, e
			}
			args = append(args, r)
		}
		t.Args = args
		return t, api.OK
	}
	return part(t)
}

// With returns a type whose capability is another one.
func With(t api.Type, c int) (api.Type, api.Errno) {
	if e := Check(t); e != api.OK {
		return api.Type{}, e
	}
	if !cap.Is(c) {
		return api.Type{}, api.ErrCap
	}
	return whole(withCap(t, c), api.OK)
}

// withCap returns a type whose parts have a capability, and which has no arrows.
func withCap(t api.Type, c int) api.Type {
	part := func(t api.Type) (api.Type, api.Errno) {
		t = exprs.CloneType(t)
		t.Cap, t.Mark = c, api.Plain
		return t, api.OK
	}
	arrow := func(t api.Type) (api.Type, api.Errno) { return withCap(t.Args[1], c), api.OK }
	t, _ = changed(t, part, arrow)
	return t
}

// marked returns a type whose parts have what a function of layer 7 makes of their capabilities and marks.
func marked(t api.Type, of func(c, mark int) (int, int)) api.Type {
	part := func(t api.Type) (api.Type, api.Errno) {
		t = exprs.CloneType(t)
		if t.Cap == api.CapNone {
			_, t.Mark = of(api.Iso, t.Mark)
		} else {
			t.Cap, t.Mark = of(t.Cap, t.Mark)
		}
		return t, api.OK
	}
	arrow := func(t api.Type) (api.Type, api.Errno) {
		t.Args = []api.Type{exprs.CloneType(t.Args[0]), marked(t.Args[1], of)}
		return t, api.OK
	}
	t, _ = changed(t, part, arrow)
	return t
}

// Aliased returns the type of a further reference.
func Aliased(t api.Type) (api.Type, api.Errno) {
	if e := Check(t); e != api.OK {
		return api.Type{}, e
	}
	return whole(marked(t, cap.Alias), api.OK)
}

// Consumed returns the type of what is given up.
func Consumed(t api.Type) (api.Type, api.Errno) {
	if e := Check(t); e != api.OK {
		return api.Type{}, e
	}
	return whole(marked(t, cap.Consumed), api.OK)
}

// judge returns what becomes of a capability that counts.
type judge func(c int) (now, mark int, e api.Errno)

// judged returns a type whose parts have what is made of the capabilities that count, and whose arrows are seen through what they
// begin with.
func judged(t api.Type, of judge) (api.Type, api.Errno) {
	part := func(t api.Type) (api.Type, api.Errno) {
		if t.Cap == api.CapNone {
			return api.Type{}, api.ErrForm
		}
		t = exprs.CloneType(t)
		var e api.Errno
		t.Cap, t.Mark, e = of(counted(t))
		return t, e
	}
	arrow := func(t api.Type) (api.Type, api.Errno) {
		if t.Args[0].Cap == api.CapNone {
			return api.Type{}, api.ErrForm
		}
		inner, e := seen(counted(t.Args[0]), t.Args[1])
		if e != api.OK {
			return api.Type{}, e
		}
		return judged(inner, of)
	}
	return changed(t, part, arrow)
}

// seen returns a type that is seen through an origin.
func seen(origin int, t api.Type) (api.Type, api.Errno) {
	return judged(t, func(c int) (int, int, api.Errno) {
		now, ok := cap.View(origin, c)
		return now, api.Plain, given(ok)
	})
}

// given returns the error of what a capability does not permit.
func given(ok bool) api.Errno {
	if ok {
		return api.OK
	}
	return api.ErrCap
}

// Seen returns a type that is seen through an origin.
func Seen(origin int, t api.Type) (api.Type, api.Errno) {
	if e := Check(t); e != api.OK {
		return api.Type{}, e
	}
	if !cap.Is(origin) {
		return api.Type{}, api.ErrCap
	}
	return whole(seen(origin, t))
}

// Extracted returns the type of what a field had, when it is written through an origin.
func Extracted(origin int, t api.Type) (api.Type, api.Errno) {
	if e := Check(t); e != api.OK {
		return api.Type{}, e
	}
	if !cap.Is(origin) {
		return api.Type{}, api.ErrCap
	}
	return whole(judged(t, func(c int) (int, int, api.Errno) {
		now, mark, ok := cap.Extract(origin, c)
		return now, mark, given(ok)
	}))
}

// Recovered returns the type of a recovered value.
func Recovered(t api.Type, c int) (api.Type, api.Errno) {
	if e := Check(t); e != api.OK {
		return api.Type{}, e
	}
	if c != api.CapNone && !cap.Is(c) {
		return api.Type{}, api.ErrCap
	}
	return whole(judged(t, func(own int) (int, int, api.Errno) {
		r, _ := cap.Recover(own)
		switch {
		case c != api.CapNone:
			return c, api.Plain, given(cap.Sub(r, c))
		case r == api.Iso:
			return r, api.Ephemeral, api.OK
		}
		return r, api.Plain, api.OK
	}))
}

// Storable reports whether a value of a type may be written into a field through an origin.
func Storable(origin int, t api.Type) bool {
	return Check(t) == api.OK && all(t, func(t api.Type) bool { return cap.Store(origin, t.Cap, t.Mark) })
}

// Sendable reports whether values of a type may be sent.
func Sendable(t api.Type) bool {
	return Check(t) == api.OK && all(t, func(t api.Type) bool { return cap.Sendable(counted(t)) })
}

// all reports whether something holds for each part of a type, and there is no arrow among them.
func all(t api.Type, holds func(t api.Type) bool) bool {
	switch t.Kind {
	case api.TypeArrow:
		return false
	case api.TypeUnion, api.TypeBoth, api.TypeTuple:
		return !slices.ContainsFunc(t.Args, func(a api.Type) bool { return !all(a, holds) })
	}
	return holds(t)
}
