// Package parser is layer 3: the grammar. See shared/doc/03-parser.md.
package parser

import (
	"hackamore/api"
	"hackamore/syntax"
	"hackamore/token"
)

// Errors of this layer.
const (
	ErrToken api.Errno = 50 // a token that cannot stand there
	ErrMix   api.Errno = 51 // different operators without brackets
)

// Parse returns the tree of a module, or the place of an error.
func Parse(text string) (api.Node, int, api.Errno) {
	return read(text, (*reader).module)
}

// Expr returns the tree of an expression.
func Expr(text string) (api.Node, int, api.Errno) {
	return read(text, (*reader).seq)
}

// Type returns the tree of a type.
func Type(text string) (api.Node, int, api.Errno) {
	return read(text, (*reader).inner)
}

// read returns the tree of a whole text that a method reads.
func read(text string, whole func(*reader) api.Node) (n api.Node, at int, e api.Errno) {
	l, at, e := token.Scan(text)
	if e != api.OK {
		return api.Node{}, at, e
	}
	defer func() {
		x := recover()
		if x == nil {
			return
		}
		f, ok := x.(fault)
		if !ok {
			panic(x)
		}
		n, at, e = api.Node{}, f.at, f.code
	}()
	r := newReader(l, len(text))
	n = whole(r)
	if r.at < len(l) {
		r.refuse()
	}
	if e := syntax.Check(n); e != api.OK {
		return api.Node{}, 0, e
	}
	return n, 0, api.OK
}
