// Package notation reads programs and expressions of the core language from short texts, for tests.
package notation

import (
	"slices"
	"strconv"
	"strings"

	"hackamore/api"
	"hackamore/types"
)

// words returns the words of the operations; `-` stands for none.
func words() []string {
	return strings.Fields("- lit local this get set var let assign consume seq if while match case try error return break continue call new recover tuple item is unit")
}

// Type returns the type with a text (layer 8); no text is that of the zero Type. It panics if there is none.
func Type(s string) api.Type {
	if s == "" {
		return api.Type{}
	}
	t, e := types.Parse(s)
	if e != api.OK {
		panic("notation: no type: " + s)
	}
	return t
}

// Types returns types with `;` between their texts.
func Types(s string) []api.Type {
	var l []api.Type
	for part := range strings.SplitSeq(s, ";") {
		if part = strings.TrimSpace(part); part != "" {
			l = append(l, Type(part))
		}
	}
	return l
}

// Expr returns the expression with a text: the word of the operation; behind a dot its Text, in double quotes where it has others
// than letters, digits, `_` and `'`; in braces its Types. With Kids it stands in round brackets, the Kids behind it. It panics if
// there is none: (call.add local.x lit.1{U32 val}).
func Expr(s string) api.Expr {
	r := &reader{s, words()}
	x := r.expr()
	if r.skip(); r.left != "" {
		panic("notation: left behind an expression: " + r.left)
	}
	return x
}

// reader reads an expression from the beginning of a text.
type reader struct {
	left  string
	words []string
}

func (r *reader) skip() { r.left = strings.TrimLeft(r.left, " \t\n") }

// take takes a text, if it is ahead.
func (r *reader) take(s string) bool {
	left, ok := strings.CutPrefix(r.left, s)
	r.left = left
	return ok
}

func (r *reader) expr() api.Expr {
	r.skip()
	if !r.take("(") {
		return r.head()
	}
	x := r.head()
	for r.skip(); !r.take(")"); r.skip() {
		x.Kids = append(x.Kids, r.expr())
	}
	return x
}

// head reads an operation with its Text and Types.
func (r *reader) head() api.Expr {
	if r.take("-") {
		return api.Expr{}
	}
	word := r.name()
	x := api.Expr{Op: slices.Index(r.words, word)}
	if x.Op < 0 {
		panic("notation: no operation: " + word + r.left)
	}
	if r.take(".") {
		x.Text = r.text()
	}
	if r.take("{") {
		list, left, _ := strings.Cut(r.left, "}")
		x.Types, r.left = Types(list), left
	}
	return x
}

func (r *reader) text() string {
	quoted, e := strconv.QuotedPrefix(r.left)
	if e != nil {
		return r.name()
	}
	r.left = r.left[len(quoted):]
	s, _ := strconv.Unquote(quoted)
	return s
}

// name reads letters, digits, `_` and `'`.
func (r *reader) name() string {
	s := r.left
	r.left = strings.TrimLeft(s, "abcdefghijklmnopqrstuvwxyzABCDEFGHIJKLMNOPQRSTUVWXYZ0123456789_'")
	return s[:len(s)-len(r.left)]
}
