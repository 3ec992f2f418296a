// Package sample makes well-formed syntax trees for tests: the same ones for the same seed. It has texts of programs, too.
package sample

import (
	"strings"

	"hackamore/api"
	"hackamore/syntax"
)

// Maker makes trees. With Canonical, it makes those alone that some text has (layer 4).
type Maker struct {
	Canonical bool
	state     uint64
	left      int
}

// New returns a maker with a seed.
func New(seed uint64) *Maker {
	return &Maker{state: seed*2862933555777941757 + 3037000493}
}

// below returns a number from 0 to n - 1.
func (m *Maker) below(n int) int {
	m.state = m.state*6364136223846793005 + 1442695040888963407
	return int(m.state>>33) % n
}

// of returns one word of a list in which `none` stands for the empty one.
func (m *Maker) of(list string) string {
	l := strings.Fields(list)
	if s := l[m.below(len(l))]; s != "none" {
		return s
	}
	return ""
}

func node(kind int, text string, kids ...api.Node) api.Node {
	return api.Node{Kind: kind, Text: text, Kids: kids}
}

func word(s string) api.Node { return node(syntax.Word, s) }

func nothing() api.Node { return node(syntax.Nothing, "") }

// list returns some nodes, at least least.
func (m *Maker) list(least int, one func() api.Node) []api.Node {
	var l []api.Node
	for range least + m.below(3) {
		n := one()
		l = append(l, n)
	}
	return l
}

// maybe returns a node or a Nothing.
func (m *Maker) maybe(one func() api.Node) api.Node {
	if m.below(2) == 0 {
		return nothing()
	}
	return one()
}

func (m *Maker) capability() api.Node { return word(m.of("none none iso trn ref val box tag")) }

func (m *Maker) lower() string { return m.of("a b c x y z n' _u f g") }

func (m *Maker) upper() string { return m.of("A B C Env U8 _P Array") }

// Module returns a tree of a module.
func (m *Maker) Module(size int) api.Node {
	m.left = size
	uses := m.list(0, m.use)
	entities := m.list(1, m.entity)
	return node(syntax.Module, "", append(uses, entities...)...)
}

// Expr returns a tree of an expression.
func (m *Maker) Expr(size int) api.Node {
	m.left = size
	return m.expr()
}

// Type returns a tree of a type.
func (m *Maker) Type(size int) api.Node {
	m.left = size
	return m.typ()
}

func (m *Maker) use() api.Node {
	return node(syntax.Use, m.of("p p/q a/b'/_c"), m.maybe(m.expr))
}

func (m *Maker) entity() api.Node {
	kind := m.of("class actor primitive trait interface type")
	kids := []api.Node{word(kind), m.capability(), m.bounds()}
	if kind == "type" {
		return node(syntax.Entity, m.upper(), append(kids, m.typ())...)
	}
	kids = append(kids, m.maybe(m.typ))
	return node(syntax.Entity, m.upper(), append(kids, m.members()...)...)
}

func (m *Maker) bounds() api.Node {
	if m.below(2) == 0 {
		return node(syntax.Bounds, "")
	}
	return node(syntax.Bounds, "", m.list(0, func() api.Node { return node(syntax.Bound, m.upper(), m.maybe(m.typ)) })...)
}

func (m *Maker) members() []api.Node {
	l := m.list(0, m.field)
	l = append(l, m.list(0, m.method)...)
	if !m.Canonical {
		l = append(l, m.list(0, m.field)...)
	}
	return l
}

func (m *Maker) field() api.Node {
	return node(syntax.Field, m.lower(), word(m.of("var let")), m.typ(), m.maybe(m.expr))
}

func (m *Maker) params() api.Node {
	return node(syntax.Params, "", m.list(0, func() api.Node { return node(syntax.Param, m.lower(), m.typ(), m.maybe(m.expr)) })...)
}

func (m *Maker) method() api.Node {
	return node(syntax.Method, m.lower(), word(m.of("new fun be")), m.capability(), m.bounds(), m.params(), m.maybe(m.typ), word(m.of("none ?")), m.maybe(m.expr))
}

func (m *Maker) named() api.Node {
	return node(syntax.NamedType, m.of("A B C U8 p.C q._D"), word(m.of("none none none val ref #read #any tag")), word(m.of("none none ^ !")))
}

func (m *Maker) typ() api.Node {
	m.left--
	if m.left < 0 {
		return m.named()
	}
	switch m.below(10) {
	case 0:
		return node(syntax.UnionType, "", m.list(2, m.typ)...)
	case 1:
		return node(syntax.BothType, "", m.list(2, m.typ)...)
	case 2:
		return node(syntax.TupleType, "", m.list(2, m.typ)...)
	case 3:
		return node(syntax.ArrowType, "", m.typ(), m.typ())
	case 4:
		return node(syntax.ThisType, "")
	case 5:
		kids := []api.Node{m.capability(), word(m.of("none ^ !")), word(m.of("none ?")), m.maybe(m.typ)}
		return node(syntax.LambdaType, "", append(kids, m.list(0, m.typ)...)...)
	case 6:
		n := m.named()
		n.Kids = append(n.Kids, m.list(1, m.typ)...)
		return n
	}
	return m.named()
}

func (m *Maker) leaf() api.Node {
	switch m.below(12) {
	case 0:
		return node(syntax.IntLit, m.of("0 7 255 340282366920938463463374607431768211455"))
	case 1:
		return node(syntax.FloatLit, m.of("1.5 2e3 1.0e-7 0.25e+3"))
	case 2:
		return node(syntax.StringLit, m.of("none a b\\ é\n\"\t x\x01\u2028"))
	case 3:
		return node(syntax.BoolLit, m.of("true false"))
	case 4:
		return node(syntax.This, "")
	case 5:
		return node([...]int{syntax.Error, syntax.Break, syntax.Continue}[m.below(3)], "")
	case 6:
		return node(syntax.Name, m.upper())
	case 7:
		return node(syntax.Decl, m.lower(), word(m.of("var let")), m.named())
	}
	return node(syntax.Name, m.lower())
}

func (m *Maker) expr() api.Node {
	m.left--
	if m.left < 0 {
		return m.leaf()
	}
	makers := m.makers()
	return makers[m.below(len(makers))]()
}

// makers returns what makes the expressions that have parts.
func (m *Maker) makers() []func() api.Node {
	e, t, maybe := m.expr, m.typ, m.maybe
	binary := func() api.Node {
		return node(syntax.Binary, m.of("and or xor is isnt + - - * / % +? -? << >> == != < <= > >="), e(), e())
	}
	return []func() api.Node{
		m.leaf, m.leaf, m.seq, m.seq, m.assign, m.assign, m.call, m.call, m.call, binary, binary, m.match, m.lambda, m.object,
		func() api.Node { return node(syntax.Dot, m.of("a x f _1 _2"), e()) },
		func() api.Node { return node(syntax.Tilde, m.lower(), e()) },
		func() api.Node { return node(syntax.Chain, m.lower(), e()) },
		func() api.Node { return node(syntax.Qualify, "", append([]api.Node{e()}, m.list(1, t)...)...) },
		func() api.Node { return node(syntax.Tuple, "", m.list(2, e)...) },
		func() api.Node { return node(syntax.Array, "", append([]api.Node{t()}, m.list(0, m.element)...)...) },
		func() api.Node { return node(syntax.Unary, m.of("not -"), e()) },
		func() api.Node { return node(syntax.As, "", e(), t()) },
		func() api.Node { return node(syntax.Consume, "", e()) },
		func() api.Node { return node(syntax.Recover, "", m.capability(), e()) },
		func() api.Node { return node(syntax.If, "", e(), e(), maybe(e)) },
		func() api.Node { return node(syntax.Ifdef, "", m.flag(), e(), maybe(e)) },
		func() api.Node { return node(syntax.While, "", e(), e(), maybe(e)) },
		func() api.Node { return node(syntax.Repeat, "", e(), e()) },
		func() api.Node { return node(syntax.For, m.lower(), t(), e(), e(), maybe(e)) },
		func() api.Node { return node(syntax.With, m.lower(), t(), e(), e()) },
		func() api.Node { return node(syntax.Try, "", e(), maybe(e), maybe(e)) },
		func() api.Node { return node(syntax.Return, "", maybe(e)) },
	}
}

// flag returns a condition of flags.
func (m *Maker) flag() api.Node {
	switch m.below(4) {
	case 0:
		return node(syntax.Unary, "not", m.flag())
	case 1:
		return node(syntax.Binary, m.of("and or"), m.flag(), m.flag())
	case 2:
		return node(syntax.BoolLit, m.of("true false"))
	}
	return node(syntax.Name, m.lower())
}

func (m *Maker) seq() api.Node {
	var kids []api.Node
	for _, n := range m.list(2, m.expr) {
		if n.Kind == syntax.Seq {
			kids = append(kids, n.Kids...)
		} else {
			kids = append(kids, n)
		}
	}
	return node(syntax.Seq, "", kids...)
}

// element returns an element of an array.
func (m *Maker) element() api.Node {
	n := m.expr()
	if m.Canonical && n.Kind == syntax.Seq {
		return n.Kids[0]
	}
	return n
}

func (m *Maker) target() api.Node {
	switch m.below(5) {
	case 0:
		return node(syntax.Decl, m.lower(), word(m.of("var let")), m.typ())
	case 1:
		return node(syntax.Dot, m.lower(), m.expr())
	case 2:
		return m.call()
	case 3:
		return node(syntax.Tuple, "", m.list(2, m.target)...)
	}
	return node(syntax.Name, m.lower())
}

func (m *Maker) assign() api.Node {
	return node(syntax.Assign, "", m.target(), m.expr())
}

func (m *Maker) call() api.Node {
	m.left--
	kids := append([]api.Node{m.callee(), word(m.of("none none ?"))}, m.list(0, m.expr)...)
	if m.below(4) == 0 {
		kids = append(kids, m.list(1, func() api.Node { return node(syntax.Named, m.lower(), m.expr()) })...)
	}
	return node(syntax.Call, "", kids...)
}

// callee returns often what methods are called by.
func (m *Maker) callee() api.Node {
	switch m.below(6) {
	case 0:
		return node(syntax.Name, m.lower())
	case 1:
		return node(syntax.Name, m.upper())
	case 2:
		return node(m.kind(), m.lower(), node(syntax.This, ""))
	case 3:
		return node(m.kind(), m.lower(), node(syntax.Name, m.lower()))
	}
	return m.expr()
}

func (m *Maker) kind() int {
	return [...]int{syntax.Dot, syntax.Dot, syntax.Chain, syntax.Tilde}[m.below(4)]
}

func (m *Maker) match() api.Node {
	kids := []api.Node{m.expr(), m.maybe(m.expr)}
	one := func() api.Node { return node(syntax.Case, "", m.pattern(), m.maybe(m.expr), m.expr()) }
	return node(syntax.Match, "", append(kids, m.list(1, one)...)...)
}

func (m *Maker) pattern() api.Node {
	switch m.below(8) {
	case 0:
		return node(syntax.Name, m.upper())
	case 1:
		return node(syntax.Qualify, "", node(syntax.Name, m.upper()), m.typ())
	case 2:
		return node(syntax.Tuple, "", m.list(2, m.declared)...)
	case 3:
		return m.expr()
	}
	return m.declared()
}

func (m *Maker) declared() api.Node {
	return node(syntax.Decl, m.lower(), word(m.of("var let")), m.typ())
}

func (m *Maker) lambda() api.Node {
	kids := []api.Node{m.capability(), m.params(), m.maybe(m.typ), word(m.of("none ?")), m.expr()}
	one := func() api.Node { return node(syntax.Capture, m.lower(), m.typ(), m.expr()) }
	return node(syntax.Lambda, "", append(kids, m.list(0, one)...)...)
}

func (m *Maker) object() api.Node {
	return node(syntax.Object, "", append([]api.Node{m.capability(), m.maybe(m.typ)}, m.members()...)...)
}
