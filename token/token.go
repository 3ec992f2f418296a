// Package token is layer 1: the tokens of a module's text. See shared/doc/01-token.md.
package token

import (
	"strings"
	"unicode/utf8"

	"hackamore/api"
)

// Errors of this layer.
const (
	ErrChar    api.Errno = 30 // a byte that begins no token
	ErrString  api.Errno = 31 // a string or a character that is not closed, or has a wrong escape
	ErrComment api.Errno = 32 // a comment that is not closed
	ErrNumber  api.Errno = 33 // a number that has not the form, or is too large
)

// Kinds of tokens.
const (
	Ident   = 1
	Keyword = 2
	Int     = 3
	Float   = 4
	String  = 5
	Symbol  = 6
)

// Token is a token: its kind, its text, where it begins, and whether it is the first one of its line.
type Token struct {
	Kind int
	Text string
	At   int
	Line bool
}

// fault is what a reader panics with.
type fault struct {
	at   int
	code api.Errno
}

// Scan returns the tokens of a text, or the place of an error.
func Scan(text string) (l []Token, at int, e api.Errno) {
	if len(text) > api.MaxSource {
		return nil, 0, api.ErrLarge
	}
	defer func() {
		r := recover()
		if r == nil {
			return
		}
		f, ok := r.(fault)
		if !ok {
			panic(r)
		}
		l, at, e = nil, f.at, f.code
	}()
	c := &cursor{text: text, keywords: keywordSet()}
	for {
		line := c.skip() || len(l) == 0
		if c.at == len(text) {
			return l, 0, api.OK
		}
		start := c.at
		read := c.reader()
		t := read()
		t.At, t.Line = start, line
		l = append(l, t)
	}
}

// Text returns a text with given tokens.
func Text(l []Token) (string, api.Errno) {
	var out strings.Builder
	for i, t := range l {
		if i == 0 && !t.Line {
			return "", api.ErrForm
		}
		s, ok := written(t)
		if !ok {
			return "", api.ErrForm
		}
		if i > 0 {
			out.WriteString(gap(t))
		}
		out.WriteString(s)
		if out.Len() > api.MaxSource {
			return "", api.ErrLarge
		}
	}
	return out.String(), api.OK
}

// gap returns what stands ahead of a token that is not the first one.
func gap(t Token) string {
	if t.Line {
		return "\n"
	}
	return " "
}

// written returns the text of a token in a module, and whether there can be such a token.
func written(t Token) (string, bool) {
	switch t.Kind {
	case Ident:
		return t.Text, isWord(t.Text) && !isKeyword(t.Text)
	case Keyword:
		return t.Text, isWord(t.Text) && isKeyword(t.Text)
	case Int:
		return t.Text, isInt(t.Text)
	case Float:
		return t.Text, isFloat(t.Text)
	case String:
		s, e := Quote(t.Text)
		return s, e == api.OK
	case Symbol:
		return t.Text, isSymbol(t.Text)
	}
	return "", false
}

// Keywords returns all keywords.
func Keywords() []string {
	return strings.Fields(keywordList)
}

// Symbols returns all symbols, longer ones first.
func Symbols() []string {
	l := symbols
	return l[:]
}

// IsIdent reports whether a text is an identifier.
func IsIdent(s string) bool {
	return len(s) <= api.MaxName && isWord(s) && !isKeyword(s)
}

// Quote returns the literal of a string.
func Quote(s string) (string, api.Errno) {
	if !utf8.ValidString(s) {
		return "", api.ErrForm
	}
	var out strings.Builder
	out.WriteByte('"')
	for i := range len(s) {
		out.WriteString(quoted(s[i : i+1]))
	}
	out.WriteByte('"')
	return out.String(), api.OK
}

// quoted returns how one byte stands in a literal.
func quoted(b string) string {
	const digits = "0123456789ABCDEF"
	switch b {
	case "\n":
		return `\n`
	case "\t":
		return `\t`
	case "\r":
		return `\r`
	case "\x00":
		return `\0`
	case `"`:
		return `\"`
	case `\`:
		return `\\`
	}
	if c := b[0]; c < ' ' || c == 127 {
		return `\x` + digits[c>>4:c>>4+1] + digits[c&15:c&15+1]
	}
	return b
}
