package check

import (
	"slices"

	"hackamore/api"
	"hackamore/types"
)

// none returns the type of None.
func none() api.Type { return types.Named("None", api.Val, nil) }

// boolean returns the type of Bools.
func boolean() api.Type { return types.Named("Bool", api.Val, nil) }

// isZero reports whether a type is the zero Type, that of what never has a value.
func isZero(t api.Type) bool { return types.Equal(t, api.Type{}) }

// isNothing reports whether a result is the zero Type, or None.
func isNothing(t api.Type) bool { return isZero(t) || types.Equal(t, none()) }

// isNone reports whether an expression is none.
func isNone(x api.Expr) bool { return x.Op == 0 }

// isConcrete reports whether an entity is a class, an actor or a primitive.
func isConcrete(x api.Entity) bool {
	return x.Kind == api.Class || x.Kind == api.Actor || x.Kind == api.Primitive
}

// hasFields reports whether an entity may have fields.
func hasFields(x api.Entity) bool { return x.Kind == api.Class || x.Kind == api.Actor }

// receiver returns the capability that a method has its receiver with.
func receiver(x api.Entity, m api.Method) int {
	switch {
	case m.Kind == api.Fun:
		return m.Cap
	case x.Kind == api.Primitive:
		return api.Val
	}
	return api.Ref
}

// counted returns what counts of the capability and the mark of a part.
func counted(t api.Type) int {
	switch {
	case t.Cap == api.Iso && t.Mark == api.Aliased:
		return api.Tag
	case t.Cap == api.Trn && t.Mark == api.Aliased:
		return api.Box
	}
	return t.Cap
}

// parts returns the parts of a type.
func parts(t api.Type) []api.Type {
	switch t.Kind {
	case api.TypeArrow:
		return parts(t.Args[1])
	case api.TypeUnion, api.TypeBoth, api.TypeTuple:
		var l []api.Type
		for _, a := range t.Args {
			l = append(l, parts(a)...)
		}
		return l
	}
	return []api.Type{t}
}

// isEven reports whether in each intersection in a well-formed type all parts have one capability and mark.
func isEven(t api.Type) bool {
	if t.Kind == api.TypeBoth {
		l := parts(t)
		if slices.ContainsFunc(l, func(a api.Type) bool { return a.Cap != l[0].Cap || a.Mark != l[0].Mark }) {
			return false
		}
	}
	return !slices.ContainsFunc(t.Args, func(a api.Type) bool { return !isEven(a) })
}

// hasArrow reports whether there is an arrow in a type.
func hasArrow(t api.Type) bool {
	return t.Kind == api.TypeArrow || slices.ContainsFunc(t.Args, hasArrow)
}

// isHeld reports whether a field, or a local variable, may have a type.
func isHeld(t api.Type) bool { return types.Reified(t) && !hasArrow(t) && isEven(t) }
