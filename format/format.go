// Package format is layer 4: canonical texts of syntax trees. See shared/doc/04-format.md.
package format

import (
	"hackamore/api"
	"hackamore/parser"
	"hackamore/syntax"
)

// Text returns the canonical text of a tree.
func Text(n api.Node) (string, api.Errno) {
	if e := syntax.Check(n); e != api.OK {
		return "", e
	}
	if n.Kind != syntax.Module && !syntax.IsType(n) && !syntax.IsExpr(n) {
		return "", api.ErrArg
	}
	if !hasText(n) {
		return "", api.ErrForm
	}
	if textSize(n) > api.MaxSource {
		return "", api.ErrLarge
	}
	s := newWriter().root(n)
	if len(s) > api.MaxSource {
		return "", api.ErrLarge
	}
	return s, api.OK
}

// Module returns the canonical text of a module's text.
func Module(text string) (string, int, api.Errno) {
	n, at, e := parser.Parse(text)
	if e != api.OK {
		return "", at, e
	}
	s, e := Text(n)
	return s, 0, e
}

// Parses reports whether a tree has a text.
func Parses(n api.Node) bool {
	_, e := Text(n)
	return e == api.OK || e == api.ErrLarge
}

// hasText reports whether some text has the well-formed tree.
func hasText(n api.Node) bool {
	for i, k := range n.Kids {
		late := i > 0 && k.Kind == syntax.Field && n.Kids[i-1].Kind == syntax.Method
		if late || n.Kind == syntax.Array && k.Kind == syntax.Seq || !hasText(k) {
			return false
		}
	}
	return true
}

// textSize returns how many bytes of a canonical text are at least those of Texts.
func textSize(n api.Node) int {
	size := len(n.Text)
	for _, k := range n.Kids {
		size += textSize(k)
	}
	return size
}
