// Package exprs has what layers share that measure, walk and copy expressions, their types, and the entities around them.
package exprs

import (
	"iter"
	"slices"

	"hackamore/api"
)

// IsNone reports whether an expression is the zero one.
func IsNone(x api.Expr) bool {
	return x.Op == 0 && x.Text == "" && len(x.Types) == 0 && len(x.Kids) == 0
}

// IsSmall reports whether an expression has at most MaxNodes nodes, and at most the depth MaxTree. It looks at no more than that.
func IsSmall(x api.Expr) bool {
	left := api.MaxNodes
	var fits func(x api.Expr, depth int) bool
	fits = func(x api.Expr, depth int) bool {
		if left == 0 || depth == 0 {
			return false
		}
		left--
		for _, k := range x.Kids {
			if !fits(k, depth-1) {
				return false
			}
		}
		return true
	}
	return fits(x, api.MaxTree)
}

// Nodes hands on an expression and all in it, in the order of the walk.
func Nodes(x api.Expr) iter.Seq[api.Expr] {
	return func(yield func(api.Expr) bool) {
		walk(x, yield)
	}
}

// walk hands on expressions until it is told to stop.
func walk(x api.Expr, yield func(api.Expr) bool) bool {
	if !yield(x) {
		return false
	}
	for _, k := range x.Kids {
		if !walk(k, yield) {
			return false
		}
	}
	return true
}

// Clone returns an expression that shares no memory with this one.
func Clone(x api.Expr) api.Expr {
	x.Types, x.Kids = CloneTypes(x.Types), slices.Clone(x.Kids)
	for i, k := range x.Kids {
		x.Kids[i] = Clone(k)
	}
	return x
}

// CloneType returns a type that shares no memory with this one.
func CloneType(t api.Type) api.Type {
	t.Args = CloneTypes(t.Args)
	return t
}

// CloneTypes returns types that share no memory with these.
func CloneTypes(l []api.Type) []api.Type {
	l = slices.Clone(l)
	for i, t := range l {
		l[i] = CloneType(t)
	}
	return l
}

// Walk hands on an expression and all in it, in the order of the walk, with their paths. What has the Op 0 is none, and has no
// Kids. A path holds only until the next one is handed on.
func Walk(x api.Expr) iter.Seq2[[]int, api.Expr] {
	return func(yield func([]int, api.Expr) bool) {
		walkPaths(make([]int, 0, api.MaxTree), x, yield)
	}
}

// walkPaths hands on expressions with their paths until it is told to stop.
func walkPaths(path []int, x api.Expr, yield func([]int, api.Expr) bool) bool {
	if !yield(path, x) {
		return false
	}
	if x.Op == 0 {
		return true
	}
	for i, k := range x.Kids {
		if !walkPaths(append(path, i), k, yield) {
			return false
		}
	}
	return true
}
