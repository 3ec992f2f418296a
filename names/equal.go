package names

import (
	"slices"

	"hackamore/api"
)

// Equal reports whether two programs are equal.
func Equal(a, b []api.Entity) bool {
	return slices.EqualFunc(a, b, equalEntities)
}

func equalEntities(a, b api.Entity) bool {
	return a.Kind == b.Kind && a.Name == b.Name && a.Cap == b.Cap && slices.EqualFunc(a.Bounds, b.Bounds, equalBounds) &&
		slices.EqualFunc(a.Provides, b.Provides, equalTypes) && slices.EqualFunc(a.Fields, b.Fields, equalFields) &&
		slices.EqualFunc(a.Methods, b.Methods, equalMethods)
}

func equalBounds(a, b api.Bound) bool { return a.Name == b.Name && equalTypes(a.Type, b.Type) }

func equalParams(a, b api.Param) bool { return a.Name == b.Name && equalTypes(a.Type, b.Type) }

func equalFields(a, b api.Field) bool {
	return a.Name == b.Name && a.Let == b.Let && equalTypes(a.Type, b.Type)
}

func equalTypes(a, b api.Type) bool {
	return a.Kind == b.Kind && a.Name == b.Name && a.Cap == b.Cap && a.Mark == b.Mark && slices.EqualFunc(a.Args, b.Args, equalTypes)
}

func equalMethods(a, b api.Method) bool {
	return a.Kind == b.Kind && a.Name == b.Name && a.Cap == b.Cap && a.Partial == b.Partial && equalTypes(a.Result, b.Result) &&
		slices.EqualFunc(a.Bounds, b.Bounds, equalBounds) && slices.EqualFunc(a.Params, b.Params, equalParams) &&
		equalExprs(a.Body, b.Body)
}

func equalExprs(a, b api.Expr) bool {
	return a.Op == b.Op && a.Text == b.Text && slices.EqualFunc(a.Types, b.Types, equalTypes) && slices.EqualFunc(a.Kids, b.Kids, equalExprs)
}
