// Package parts has what layers 5 and 6 share: parts of trees with the paths that lead to them, and what both ask of names and
// of conditions of flags.
package parts

import (
	"strings"

	"hackamore/api"
	"hackamore/syntax"
)

// Part is a node of a tree, with its place in it.
type Part struct {
	api.Node
	outer *Part
	index int
}

// Root returns the whole of a tree.
func Root(n api.Node) Part {
	return Part{Node: n}
}

// Kid returns one of the Kids.
func (p Part) Kid(i int) Part {
	return Part{Node: p.Kids[i], outer: &p, index: i}
}

// From returns the Kids from an index on.
func (p Part) From(first int) []Part {
	var l []Part
	for i := first; i < len(p.Kids); i++ {
		l = append(l, p.Kid(i))
	}
	return l
}

// As returns another node at the same place.
func (p Part) As(n api.Node) Part {
	p.Node = n
	return p
}

// Path returns the path of the part in its tree.
func (p Part) Path() []int {
	if p.outer == nil {
		return nil
	}
	return append(p.outer.Path(), p.index)
}

// Nothing reports whether the part is missing.
func (p Part) Nothing() bool {
	return p.Kind == syntax.Nothing
}

// IsUpper reports whether a name is one of entities and type parameters: its first letter, behind any `_`, is a great one.
func IsUpper(name string) bool {
	s := strings.TrimLeft(name, "_")
	return s != "" && 'A' <= s[0] && s[0] <= 'Z'
}

// IsUpperName reports whether an expression is an upper name.
func IsUpperName(n api.Node) bool {
	return n.Kind == syntax.Name && IsUpper(n.Text)
}

// Holds reports whether a condition holds with some flags. If it is none, it returns the first part that is wrong.
func Holds(p Part, flags []string) (holds bool, wrong Part, e api.Errno) {
	operator := p.Text
	switch {
	case p.Kind == syntax.Name:
		for _, f := range flags {
			holds = holds || f == p.Text
		}
		return holds, Part{}, api.OK
	case p.Kind == syntax.BoolLit:
		return p.Text == "true", Part{}, api.OK
	case p.Kind == syntax.Unary && operator == "not":
		holds, wrong, e = Holds(p.Kid(0), flags)
		return !holds && e == api.OK, wrong, e
	case p.Kind != syntax.Binary || operator != "and" && operator != "or":
		return false, p, api.ErrForm
	}
	left, wrong, e := Holds(p.Kid(0), flags)
	if e != api.OK {
		return false, wrong, e
	}
	right, wrong, e := Holds(p.Kid(1), flags)
	if operator == "and" {
		return left && right, wrong, e
	}
	return (left || right) && e == api.OK, wrong, e
}
