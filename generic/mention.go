package generic

import (
	"iter"

	"hackamore/api"
	"hackamore/exprs"
)

// place is where a type is mentioned: among the types of an entity itself, or of one of its methods.
type place struct {
	entity api.Entity
	method *api.Method
}

// head hands on the types of an entity that stand in none of its methods.
func head(x api.Entity) iter.Seq[api.Type] {
	return func(yield func(api.Type) bool) {
		for _, t := range x.Provides {
			if !yield(t) {
				return
			}
		}
		for _, f := range x.Fields {
			if !yield(f.Type) {
				return
			}
		}
		for _, b := range x.Bounds {
			if !yield(b.Type) {
				return
			}
		}
	}
}

// inMethod hands on the types of a method.
func inMethod(m api.Method) iter.Seq[api.Type] {
	return func(yield func(api.Type) bool) {
		for _, b := range m.Bounds {
			if !yield(b.Type) {
				return
			}
		}
		for _, p := range m.Params {
			if !yield(p.Type) {
				return
			}
		}
		if !yield(m.Result) {
			return
		}
		for x := range exprs.Nodes(m.Body) {
			for _, t := range x.Types {
				if !yield(t) {
					return
				}
			}
		}
	}
}

// mentioned hands on the types of an entity, with their places.
func mentioned(x api.Entity) iter.Seq2[place, api.Type] {
	return func(yield func(place, api.Type) bool) {
		for t := range head(x) {
			if !yield(place{entity: x}, t) {
				return
			}
		}
		for i := range x.Methods {
			for t := range inMethod(x.Methods[i]) {
				if !yield(place{x, &x.Methods[i]}, t) {
					return
				}
			}
		}
	}
}

// call is what has type arguments of a method: an OpCall, or an OpNew of the entity of a type.
type call struct {
	isNew  bool
	made   api.Type
	method string
	args   []api.Type
}

// callOf returns the call that an expression is, if it has type arguments of a method.
func callOf(x api.Expr) (call, bool) {
	switch {
	case x.Op == api.OpCall && len(x.Types) > 0:
		return call{method: x.Text, args: x.Types}, true
	case x.Op == api.OpNew && len(x.Types) > 1:
		return call{isNew: true, made: x.Types[0], method: x.Text, args: x.Types[1:]}, true
	}
	return call{}, false
}

// mayReach reports whether a call may be one of an entity's method.
func (c call) mayReach(entity string) bool {
	return !c.isNew || c.made.Kind == api.TypeName && c.made.Name == entity
}
