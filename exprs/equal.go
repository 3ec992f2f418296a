package exprs

import (
	"slices"

	"hackamore/api"
)

// EqualEntities reports whether two programs are equal.
func EqualEntities(a, b []api.Entity) bool { return slices.EqualFunc(a, b, equalEntities) }

func equalEntities(a, b api.Entity) bool {
	return a.Kind == b.Kind && a.Name == b.Name && a.Cap == b.Cap && slices.EqualFunc(a.Bounds, b.Bounds, equalBounds) &&
		slices.EqualFunc(a.Provides, b.Provides, EqualType) && slices.EqualFunc(a.Fields, b.Fields, equalFields) &&
		slices.EqualFunc(a.Methods, b.Methods, equalMethods)
}

func equalBounds(a, b api.Bound) bool { return a.Name == b.Name && EqualType(a.Type, b.Type) }

func equalParams(a, b api.Param) bool { return a.Name == b.Name && EqualType(a.Type, b.Type) }

func equalFields(a, b api.Field) bool {
	return a.Name == b.Name && a.Let == b.Let && EqualType(a.Type, b.Type)
}

// EqualType reports whether two types have equal fields, and equal Args, one by one.
func EqualType(a, b api.Type) bool {
	return a.Kind == b.Kind && a.Name == b.Name && a.Cap == b.Cap && a.Mark == b.Mark && slices.EqualFunc(a.Args, b.Args, EqualType)
}

func equalMethods(a, b api.Method) bool {
	return a.Kind == b.Kind && a.Name == b.Name && a.Cap == b.Cap && a.Partial == b.Partial && EqualType(a.Result, b.Result) &&
		slices.EqualFunc(a.Bounds, b.Bounds, equalBounds) && slices.EqualFunc(a.Params, b.Params, equalParams) &&
		equalExprs(a.Body, b.Body)
}

func equalExprs(a, b api.Expr) bool {
	return a.Op == b.Op && a.Text == b.Text && slices.EqualFunc(a.Types, b.Types, EqualType) && slices.EqualFunc(a.Kids, b.Kids, equalExprs)
}
