// Package sugar is layer 5: rewriting of syntax trees to a smaller language. See shared/doc/05-sugar.md.
package sugar

import (
	"hackamore/api"
	"hackamore/parts"
	"hackamore/syntax"
)

// Errors of this layer.
const (
	ErrArgs    api.Errno = 70 // arguments that do not fit the parameters of a known method, or names for an unknown one
	ErrAssign  api.Errno = 71 // an assignment to what cannot be assigned
	ErrPattern api.Errno = 72 // a pattern that is none
	ErrChain   api.Errno = 73 // a chain, or a partial application, of what is not known
)

// fault is what a rule panics with.
type fault struct {
	path []int
	code api.Errno
}

func fail(code api.Errno, p parts.Part) {
	panic(fault{p.Path(), code})
}

// Module returns the plain tree of a module, with flags that are set.
func Module(n api.Node, flags []string) (plain api.Node, path []int, e api.Errno) {
	if e := syntax.Check(n); e != api.OK {
		return api.Node{}, nil, e
	}
	if n.Kind != syntax.Module {
		return api.Node{}, nil, api.ErrArg
	}
	defer func() {
		x := recover()
		if x == nil {
			return
		}
		f, ok := x.(fault)
		if !ok {
			panic(x)
		}
		plain, path, e = api.Node{}, f.path, f.code
	}()
	plain, fits := newWork(n, flags).module(parts.Root(n))
	if !fits || syntax.Check(plain) != api.OK {
		return api.Node{}, nil, api.ErrSize
	}
	return copied(plain), nil, api.OK
}

// IsPlain reports whether a tree has no sugar.
func IsPlain(n api.Node) bool {
	return n.Kind == syntax.Module && syntax.Check(n) == api.OK && plain(n)
}

// plain reports whether a well-formed tree has no sugar. The conditions of uses are not a part of the program.
func plain(n api.Node) bool {
	if n.Kind == syntax.Use {
		return true
	}
	for _, k := range n.Kids {
		if !plain(k) {
			return false
		}
	}
	return plainNode(n)
}

// plainNode reports whether a node, whatever its kids are, is one of plain trees.
func plainNode(n api.Node) bool {
	switch n.Kind {
	case syntax.LambdaType, syntax.Tilde, syntax.Chain, syntax.Named, syntax.Array, syntax.Unary, syntax.As, syntax.Repeat,
		syntax.For, syntax.With, syntax.Ifdef, syntax.Object, syntax.Lambda, syntax.Capture:
		return false
	case syntax.Binary:
		return n.Text == "is" || n.Text == "isnt"
	case syntax.Param:
		return n.Kids[1].Kind == syntax.Nothing
	case syntax.Field:
		return n.Kids[2].Kind == syntax.Nothing
	case syntax.Assign:
		left := n.Kids[0].Kind
		return left == syntax.Name || left == syntax.Decl || left == syntax.Dot
	case syntax.Case:
		return n.Kids[0].Kind == syntax.Decl
	case syntax.Call:
		return isDot(n.Kids[0])
	}
	return true
}

// isDot reports whether a callee is a Dot, or a Qualify of one.
func isDot(n api.Node) bool {
	return n.Kind == syntax.Dot || n.Kind == syntax.Qualify && n.Kids[0].Kind == syntax.Dot
}
