package types

import (
	"cmp"
	"slices"

	"hackamore/api"
	"hackamore/cap"
	"hackamore/exprs"
)

// Normal returns the normal form of a type.
func Normal(t api.Type) (api.Type, api.Errno) {
	if e := Check(t); e != api.OK {
		return api.Type{}, e
	}
	return whole(normal(exprs.CloneType(t)))
}

// Union returns the normal form of the union of types.
func Union(l []api.Type) (api.Type, api.Errno) {
	if len(l) == 0 {
		return api.Type{}, api.ErrArg
	}
	if e := checkAll(l); e != api.OK {
		return api.Type{}, e
	}
	return whole(normal(api.Type{Kind: api.TypeUnion, Args: exprs.CloneTypes(l)}))
}

// normal returns the normal form of a type, which it may change.
func normal(t api.Type) (api.Type, api.Errno) {
	for i, a := range t.Args {
		n, e := normal(a)
		if e != api.OK {
			return api.Type{}, e
		}
		t.Args[i] = n
	}
	switch t.Kind {
	case api.TypeName, api.TypeParam, api.TypeSelf:
		if cap.Is(t.Cap) && t.Cap != api.Iso && t.Cap != api.Trn {
			t.Mark = api.Plain
		}
	case api.TypeArrow:
		if !isSeen(t) {
			break
		}
		inner, e := seen(counted(t.Args[0]), t.Args[1])
		if e != api.OK {
			return api.Type{}, e
		}
		return normal(inner)
	case api.TypeUnion, api.TypeBoth:
		t.Args = joined(t.Kind, t.Args)
		if len(t.Args) == 1 {
			return t.Args[0], api.OK
		}
	}
	return t, api.OK
}

// isSeen reports whether a type is an arrow whose first one is the receiver with a capability.
func isSeen(t api.Type) bool {
	return t.Kind == api.TypeArrow && t.Args[0].Kind == api.TypeSelf && t.Args[0].Cap != api.CapNone
}

// joined returns the Args of a union, or an intersection, in order, each once, without brackets among them.
func joined(kind int, l []api.Type) []api.Type {
	type keyed struct {
		text string
		t    api.Type
	}
	var keys []keyed
	for _, t := range l {
		parts := []api.Type{t}
		if t.Kind == kind {
			parts = t.Args
		}
		for _, p := range parts {
			keys = append(keys, keyed{text(p), p})
		}
	}
	slices.SortStableFunc(keys, func(a, b keyed) int { return cmp.Compare(a.text, b.text) })
	keys = slices.CompactFunc(keys, func(a, b keyed) bool { return a.text == b.text })
	var out []api.Type
	for _, k := range keys {
		out = append(out, k.t)
	}
	return out
}
