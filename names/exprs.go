package names

import (
	"strconv"

	"hackamore/api"
	"hackamore/num"
	"hackamore/parts"
	"hackamore/syntax"
)

// rules returns what resolves expressions, by their kinds.
func rules() map[int]func(*walker, parts.Part) api.Expr {
	plain := func(op int) func(*walker, parts.Part) api.Expr {
		return func(*walker, parts.Part) api.Expr { return api.Expr{Op: op} }
	}
	return map[int]func(*walker, parts.Part) api.Expr{
		syntax.IntLit:    func(w *walker, p parts.Part) api.Expr { return w.number(p, "USize") },
		syntax.FloatLit:  func(w *walker, p parts.Part) api.Expr { return w.number(p, "F64") },
		syntax.StringLit: func(w *walker, p parts.Part) api.Expr { return literal("String", p.Text) },
		syntax.BoolLit:   func(w *walker, p parts.Part) api.Expr { return literal("Bool", p.Text) },
		syntax.This:      plain(api.OpThis),
		syntax.Error:     plain(api.OpError),
		syntax.Break:     plain(api.OpBreak),
		syntax.Continue:  plain(api.OpContinue),
		syntax.Seq:       func(w *walker, p parts.Part) api.Expr { return api.Expr{Op: api.OpSeq, Kids: w.exprs(p, 0)} },
		syntax.Tuple:     func(w *walker, p parts.Part) api.Expr { return api.Expr{Op: api.OpTuple, Kids: w.exprs(p, 0)} },
		syntax.Return: func(w *walker, p parts.Part) api.Expr {
			return api.Expr{Op: api.OpReturn, Kids: []api.Expr{w.orNone(p.Kid(0))}}
		},
		syntax.Name:    (*walker).name,
		syntax.Decl:    func(w *walker, p parts.Part) api.Expr { return w.decl(p, nil) },
		syntax.Assign:  (*walker).assign,
		syntax.Dot:     (*walker).dot,
		syntax.Qualify: (*walker).qualify,
		syntax.Call:    (*walker).call,
		syntax.Binary:  (*walker).binary,
		syntax.Consume: (*walker).consume,
		syntax.Recover: (*walker).recovered,
		syntax.If:      func(w *walker, p parts.Part) api.Expr { return w.branches(p, api.OpIf) },
		syntax.While:   func(w *walker, p parts.Part) api.Expr { return w.branches(p, api.OpWhile) },
		syntax.Match:   (*walker).match,
		syntax.Try:     (*walker).try,
	}
}

func (w *walker) expr(p parts.Part) api.Expr {
	return w.rules[p.Kind](w, p)
}

func (w *walker) exprs(p parts.Part, first int) []api.Expr {
	var l []api.Expr
	for _, k := range p.From(first) {
		l = append(l, w.expr(k))
	}
	return l
}

func literal(typ, text string) api.Expr {
	return api.Expr{Op: api.OpLit, Text: text, Types: []api.Type{named(typ, api.Val)}}
}

func unit(t api.Type) api.Expr {
	return api.Expr{Op: api.OpUnit, Types: []api.Type{t}}
}

// number resolves a literal as a number of a type.
func (w *walker) number(p parts.Part, typ string) api.Expr {
	if _, e := num.Parse(typ, p.Text); e != api.OK {
		w.fail(ErrLiteral, p)
	}
	return literal(typ, p.Text)
}

// orNone resolves what may be missing, and is None then.
func (w *walker) orNone(p parts.Part) api.Expr {
	if p.Nothing() {
		return unit(none())
	}
	return w.expr(p)
}

// scoped resolves a body, which may be missing.
func (w *walker) scoped(p parts.Part) api.Expr {
	return w.within(func() api.Expr { return w.orNone(p) })
}

// known returns the entity of an upper name; it fails if there is none, or with ErrKind at a part if it is a type parameter.
func (w *walker) known(name, at parts.Part) *entity {
	if w.isParam(name.Text) {
		w.fail(ErrKind, at)
	}
	x := w.visible(w.module, name.Text)
	if x == nil {
		w.fail(api.ErrScope, name)
	}
	return x
}

func (w *walker) name(p parts.Part) api.Expr {
	if !parts.IsUpper(p.Text) {
		unique, ok := w.local(p.Text)
		if !ok {
			w.fail(api.ErrScope, p)
		}
		return api.Expr{Op: api.OpLocal, Text: unique}
	}
	x := w.known(p, p)
	if x.kind != api.Primitive {
		w.fail(ErrKind, p)
	}
	if x.bounds > 0 {
		w.fail(ErrArity, p)
	}
	return unit(named(x.name, x.cap))
}

// decl resolves the declaration of a local, with its value or without one. The value does not see the local.
func (w *walker) decl(p parts.Part, value func() api.Expr) api.Expr {
	unique := w.newName(p.Text)
	x := api.Expr{Op: api.OpVar, Text: unique, Types: []api.Type{w.typ(p.Kid(1))}}
	if p.Kids[0].Text == "let" {
		x.Op = api.OpLet
	}
	if value != nil {
		x.Kids = []api.Expr{value()}
	}
	w.declare(unique, p.Text)
	return x
}

func (w *walker) assign(p parts.Part) api.Expr {
	left, right := p.Kid(0), p.Kid(1)
	value := func() api.Expr { return w.expr(right) }
	if left.Kind == syntax.Decl {
		return w.decl(left, value)
	}
	if _, item := itemIndex(left.Text); parts.IsUpperName(left.Node) || left.Kind == syntax.Dot && item {
		w.fail(ErrKind, left)
	}
	if left.Kind == syntax.Name {
		target := w.name(left)
		return api.Expr{Op: api.OpAssign, Text: target.Text, Kids: []api.Expr{value()}}
	}
	target := w.dot(left)
	return api.Expr{Op: api.OpSet, Text: target.Text, Kids: append(target.Kids, value())}
}

// itemIndex returns the index of an element of a tuple by its name, and whether it is one.
func itemIndex(name string) (int, bool) {
	if len(name) < 2 || name[0] != '_' || name[1] < '1' || name[1] > '9' {
		return 0, false
	}
	n, err := strconv.Atoi(name[1:])
	return n - 1, err == nil
}

// upperOf returns the upper name that an expression is, or of which it is a Qualify.
func upperOf(p parts.Part) (parts.Part, bool) {
	if p.Kind == syntax.Qualify {
		p = p.Kid(0)
	}
	return p, parts.IsUpperName(p.Node)
}

// dot resolves a Dot that is not called.
func (w *walker) dot(p parts.Part) api.Expr {
	if upper, ok := upperOf(p.Kid(0)); ok {
		w.known(upper, p)
		w.fail(ErrKind, p)
	}
	kids := []api.Expr{w.expr(p.Kid(0))}
	if i, item := itemIndex(p.Text); item {
		return api.Expr{Op: api.OpItem, Text: strconv.Itoa(i), Kids: kids}
	}
	return api.Expr{Op: api.OpGet, Text: p.Text, Kids: kids}
}

// qualify refuses a Qualify that is not called.
func (w *walker) qualify(p parts.Part) api.Expr {
	if upper, ok := upperOf(p); ok {
		w.known(upper, p)
	}
	w.fail(ErrKind, p)
	return api.Expr{}
}

func (w *walker) binary(p parts.Part) api.Expr {
	same := api.Expr{Op: api.OpIs, Kids: w.exprs(p, 0)}
	if p.Text == "is" {
		return same
	}
	return api.Expr{Op: api.OpIf, Kids: []api.Expr{same, literal("Bool", "false"), literal("Bool", "true")}}
}

func (w *walker) consume(p parts.Part) api.Expr {
	k := p.Kid(0)
	if k.Kind != syntax.Name || parts.IsUpper(k.Text) {
		w.fail(ErrKind, p)
	}
	return api.Expr{Op: api.OpConsume, Text: w.name(k).Text}
}

func (w *walker) recovered(p parts.Part) api.Expr {
	capability := capOf(p.Kids[0].Text)
	if capability == api.CapNone {
		capability = api.Iso
	}
	self := api.Type{Kind: api.TypeSelf, Cap: capability}
	return api.Expr{Op: api.OpRecover, Types: []api.Type{self}, Kids: []api.Expr{w.scoped(p.Kid(1))}}
}

// branches resolves a condition, whose locals are in scope in the bodies behind it.
func (w *walker) branches(p parts.Part, op int) api.Expr {
	return w.within(func() api.Expr {
		condition := w.expr(p.Kid(0))
		body := w.scoped(p.Kid(1))
		return api.Expr{Op: op, Kids: []api.Expr{condition, body, w.scoped(p.Kid(2))}}
	})
}

func (w *walker) try(p parts.Part) api.Expr {
	x := api.Expr{Op: api.OpTry}
	for _, k := range p.From(0) {
		x.Kids = append(x.Kids, w.scoped(k))
	}
	return x
}

// match resolves the else ahead of the cases, behind which it stands.
func (w *walker) match(p parts.Part) api.Expr {
	return w.within(func() api.Expr {
		x := api.Expr{Op: api.OpMatch, Kids: []api.Expr{w.expr(p.Kid(0))}}
		var last []api.Expr
		if otherwise := p.Kid(1); !otherwise.Nothing() {
			last = append(last, w.within(func() api.Expr { return w.otherwise(otherwise) }))
		}
		for _, k := range p.From(2) {
			one := w.within(func() api.Expr { return w.oneCase(k) })
			x.Kids = append(x.Kids, one)
		}
		x.Kids = append(x.Kids, last...)
		return x
	})
}

// otherwise resolves the else of a match as a case of anything.
func (w *walker) otherwise(p parts.Part) api.Expr {
	unique := w.newName("_")
	w.declare(unique, "_")
	return api.Expr{Op: api.OpCase, Text: unique, Types: []api.Type{named("Any", api.Tag)}, Kids: []api.Expr{{}, w.expr(p)}}
}

func (w *walker) oneCase(p parts.Part) api.Expr {
	pattern := p.Kid(0)
	unique := w.newName(pattern.Text)
	typ := w.typ(pattern.Kid(1))
	w.declare(unique, pattern.Text)
	guard := api.Expr{}
	if !p.Kid(1).Nothing() {
		guard = w.expr(p.Kid(1))
	}
	return api.Expr{Op: api.OpCase, Text: unique, Types: []api.Type{typ}, Kids: []api.Expr{guard, w.expr(p.Kid(2))}}
}
