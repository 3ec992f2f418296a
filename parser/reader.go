package parser

import (
	"strings"

	"hackamore/api"
	"hackamore/syntax"
	"hackamore/token"
)

// fault is what a reader panics with.
type fault struct {
	at   int
	code api.Errno
}

// reader reads tokens from a place on. Its tables say by which keywords and symbols something begins or ends.
type reader struct {
	tokens    []token.Token
	at        int
	end       int // the length of the text
	caps      map[string]bool
	generics  map[string]bool
	operators map[string]bool
	stops     map[string]bool // what no stat begins with
	terms     map[string]bool // what terms begin with, beside literals and names
	atoms     map[string]func(*reader) api.Node
}

func newReader(l []token.Token, end int) *reader {
	caps := "iso trn ref val box tag"
	return &reader{
		tokens:    l,
		end:       end,
		caps:      words(caps),
		generics:  words(caps + " #read #send #share #alias #any"),
		operators: words("and or xor is isnt + - * / % +? -? *? /? %? << >> == != < <= > >="),
		stops: words(") ] } , | => : then elseif else end do until in where new fun be use class actor primitive trait " +
			"interface type"),
		terms: words("not - consume true false this var let ( [ { if ifdef while repeat for with match try recover object"),
		atoms: atoms(),
	}
}

func words(list string) map[string]bool {
	set := map[string]bool{}
	for _, s := range strings.Fields(list) {
		set[s] = true
	}
	return set
}

func node(kind int, text string, kids ...api.Node) api.Node {
	return api.Node{Kind: kind, Text: text, Kids: kids}
}

func word(s string) api.Node { return node(syntax.Word, s) }

func nothing() api.Node { return node(syntax.Nothing, "") }

// next returns the token at hand; behind the end one without a kind.
func (r *reader) next() token.Token {
	if r.at < len(r.tokens) {
		return r.tokens[r.at]
	}
	return token.Token{At: r.end}
}

func (r *reader) fail(code api.Errno) {
	panic(fault{r.next().At, code})
}

// refuse fails because the token at hand cannot stand here.
func (r *reader) refuse() {
	if r.at == len(r.tokens) {
		r.fail(api.ErrEnd)
	}
	r.fail(ErrToken)
}

// fixed returns the text of the token at hand, if it is a keyword or a symbol.
func (r *reader) fixed() string {
	if t := r.next(); t.Kind == token.Keyword || t.Kind == token.Symbol {
		return t.Text
	}
	return ""
}

// stands reports whether one of some keywords and symbols is at hand.
func (r *reader) stands(list ...string) bool {
	s := r.fixed()
	for _, x := range list {
		if s == x {
			return true
		}
	}
	return false
}

// near reports whether a symbol is at hand, and on its line.
func (r *reader) near(s string) bool {
	return r.stands(s) && !r.next().Line
}

func (r *reader) take(s string) bool {
	if !r.stands(s) {
		return false
	}
	r.at++
	return true
}

func (r *reader) need(s string) {
	if !r.take(s) {
		r.refuse()
	}
}

// one takes a keyword or symbol of a set, and returns its text, or the empty one if there is none at hand.
func (r *reader) one(set map[string]bool) string {
	s := r.fixed()
	if !set[s] {
		return ""
	}
	r.at++
	return s
}

// flag returns the Word of a symbol that may be missing.
func (r *reader) flag(s string) api.Node {
	if r.take(s) {
		return word(s)
	}
	return word("")
}

func (r *reader) capability() api.Node {
	return word(r.one(r.caps))
}

func (r *reader) mark() api.Node {
	if r.take("^") {
		return word("^")
	}
	return r.flag("!")
}

func (r *reader) name() string {
	t := r.next()
	if t.Kind != token.Ident {
		r.refuse()
	}
	if !token.IsIdent(t.Text) {
		r.fail(api.ErrForm)
	}
	r.at++
	return t.Text
}

// maybe reads what stands behind a keyword or symbol that may be missing.
func (r *reader) maybe(s string, read func() api.Node) api.Node {
	if r.take(s) {
		return read()
	}
	return nothing()
}

// list reads parts with a separator between them.
func list[T any](r *reader, separator string, read func() T) []T {
	first := read()
	l := []T{first}
	for r.take(separator) {
		part := read()
		l = append(l, part)
	}
	return l
}

// within reads a list in brackets with commas, which may be empty.
func within[T any](r *reader, read func() T) []T {
	r.need("(")
	if r.take(")") {
		return nil
	}
	l := list(r, ",", read)
	r.need(")")
	return l
}
