// Package syntax is layer 2: syntax trees as plain data. See shared/doc/02-syntax.md.
package syntax

import (
	"iter"
	"slices"
	"strings"

	"hackamore/api"
	"hackamore/token"
)

// Kinds of nodes.
const (
	Module     = 1
	Use        = 2
	Entity     = 3
	Word       = 4
	Nothing    = 5
	Bounds     = 6
	Bound      = 7
	Field      = 8
	Method     = 9
	Params     = 10
	Param      = 11
	NamedType  = 12
	UnionType  = 13
	BothType   = 14
	TupleType  = 15
	ArrowType  = 16
	ThisType   = 17
	LambdaType = 18
	IntLit     = 19
	FloatLit   = 20
	StringLit  = 21
	BoolLit    = 22
	Name       = 23
	This       = 24
	Seq        = 25
	Decl       = 26
	Assign     = 27
	Dot        = 28
	Tilde      = 29
	Chain      = 30
	Call       = 31
	Named      = 32
	Qualify    = 33
	Tuple      = 34
	Array      = 35
	Unary      = 36
	Binary     = 37
	As         = 38
	Consume    = 39
	Recover    = 40
	If         = 41
	Ifdef      = 42
	While      = 43
	Repeat     = 44
	For        = 45
	With       = 46
	Match      = 47
	Case       = 48
	Try        = 49
	Error      = 50
	Return     = 51
	Break      = 52
	Continue   = 53
	Object     = 54
	Lambda     = 55
	Capture    = 56
	Last       = 56
)

// Check returns the error of a tree whose root is of any kind.
func Check(n api.Node) api.Errno {
	if left := api.MaxNodes; !small(n, &left, api.MaxTree) {
		return api.ErrSize
	}
	if !newRules().whole(n) {
		return api.ErrForm
	}
	return api.OK
}

// small reports whether a tree has at most left nodes, which it takes off, and at most a depth. It stops as soon as it has not.
func small(n api.Node, left *int, depth int) bool {
	if *left == 0 || depth == 0 {
		return false
	}
	*left--
	for _, k := range n.Kids {
		if !small(k, left, depth-1) {
			return false
		}
	}
	return true
}

// Size returns the number of nodes and the depth of a tree.
func Size(n api.Node) (nodes, depth int) {
	nodes = 1
	for _, k := range n.Kids {
		count, deep := Size(k)
		nodes += count
		depth = max(depth, deep)
	}
	return nodes, depth + 1
}

// Equal reports whether two trees are equal.
func Equal(a, b api.Node) bool {
	return a.Kind == b.Kind && a.Text == b.Text && slices.EqualFunc(a.Kids, b.Kids, Equal)
}

// IsType reports whether a node is a type.
func IsType(n api.Node) bool { return NamedType <= n.Kind && n.Kind <= LambdaType }

// IsExpr reports whether a node is an expression.
func IsExpr(n api.Node) bool {
	return IntLit <= n.Kind && n.Kind <= Lambda && n.Kind != Named && n.Kind != Case
}

// IsMember reports whether a node is a field or a method.
func IsMember(n api.Node) bool { return n.Kind == Field || n.Kind == Method }

// At returns the part at a path.
func At(n api.Node, path []int) (api.Node, api.Errno) {
	for part, ok := range walk(n, path) {
		if !ok {
			return api.Node{}, api.ErrNone
		}
		n = part
	}
	return clone(n), api.OK
}

// walk hands on the parts to which a path leads, with false for the first one that is not there.
func walk(n api.Node, path []int) iter.Seq2[api.Node, bool] {
	return func(yield func(api.Node, bool) bool) {
		for _, i := range path {
			if i < 0 || i >= len(n.Kids) {
				yield(api.Node{}, false)
				return
			}
			n = n.Kids[i]
			if !yield(n, true) {
				return
			}
		}
	}
}

// Put returns a tree with another part at a path.
func Put(n api.Node, path []int, part api.Node) (api.Node, api.Errno) {
	if _, e := At(n, path); e != api.OK {
		return api.Node{}, e
	}
	n, part = clone(n), clone(part)
	if len(path) == 0 {
		return part, api.OK
	}
	place := &n
	for _, i := range path {
		place = &place.Kids[i]
	}
	*place = part
	return n, api.OK
}

func clone(n api.Node) api.Node {
	kids := make([]api.Node, len(n.Kids))
	for i, k := range n.Kids {
		kids[i] = clone(k)
	}
	n.Kids = kids
	return n
}

// Text returns the text of a tree as nested lists.
func Text(n api.Node) (string, api.Errno) {
	if e := Check(n); e != api.OK {
		return "", e
	}
	var out strings.Builder
	table := shapes()
	write(&out, n, &table)
	return out.String(), api.OK
}

func write(out *strings.Builder, n api.Node, table *[Last + 1]shape) {
	out.WriteString("(" + table[n.Kind].name)
	if n.Text != "" {
		s, _ := token.Quote(n.Text)
		out.WriteString(" " + s)
	}
	for _, k := range n.Kids {
		out.WriteString(" ")
		write(out, k, table)
	}
	out.WriteString(")")
}
