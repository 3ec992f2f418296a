package names

import (
	"slices"

	"hackamore/api"
	"hackamore/num"
	"hackamore/parts"
	"hackamore/syntax"
)

// call resolves a call of a Dot, or of a Qualify of one.
func (w *walker) call(p parts.Part) api.Expr {
	callee := p.Kid(0)
	method := callee
	if callee.Kind == syntax.Qualify {
		method = callee.Kid(0)
	}
	receiver := method.Kid(0)
	upper, ok := upperOf(receiver)
	if !ok {
		return w.methodCall(p, method.Text, w.expr(receiver))
	}
	x := w.known(upper, upper)
	if typ := numberType(x, p); typ != "" {
		return w.number(p.Kid(2), typ)
	}
	if x.kind == api.Primitive && !hasConstructor(x, method.Text) {
		return w.methodCall(p, method.Text, unit(w.applied(x, receiver, upper)))
	}
	if x.kind != api.Class && x.kind != api.Actor && x.kind != api.Primitive {
		w.fail(ErrKind, upper)
	}
	if !hasConstructor(x, method.Text) {
		w.fail(api.ErrNone, upper)
	}
	types := []api.Type{w.applied(x, receiver, upper)}
	types = append(types, w.calleeTypes(callee)...)
	return api.Expr{Op: api.OpNew, Text: method.Text, Types: types, Kids: w.exprs(p, 2)}
}

// methodCall resolves the type arguments and the arguments of a call of a method.
func (w *walker) methodCall(p parts.Part, method string, receiver api.Expr) api.Expr {
	types := w.calleeTypes(p.Kid(0))
	kids := append([]api.Expr{receiver}, w.exprs(p, 2)...)
	return api.Expr{Op: api.OpCall, Text: method, Types: types, Kids: kids}
}

// calleeTypes resolves the type arguments of a method that is called.
func (w *walker) calleeTypes(callee parts.Part) []api.Type {
	if callee.Kind != syntax.Qualify {
		return nil
	}
	return w.typesOf(callee, 1)
}

// applied returns the type of an entity with the type arguments that stand at its name.
func (w *walker) applied(x *entity, receiver, upper parts.Part) api.Type {
	t := named(x.name, x.cap)
	arguments := 0
	if receiver.Kind == syntax.Qualify {
		arguments = len(receiver.Kids) - 1
	}
	if arguments != x.bounds {
		w.fail(ErrArity, upper)
	}
	if arguments > 0 {
		t.Args = w.typesOf(receiver, 1)
	}
	return t
}

func hasConstructor(x *entity, name string) bool {
	if x.whole != nil {
		return slices.ContainsFunc(x.whole.Methods, func(m api.Method) bool { return m.Kind == api.New && m.Name == name })
	}
	for _, k := range x.part.Kids[4:] {
		if k.Kind == syntax.Method && k.Text == name && k.Kids[0].Text == "new" {
			return true
		}
	}
	return false
}

// numberType returns the number type of which a call makes a number of a literal, or the empty text.
func numberType(x *entity, p parts.Part) string {
	f := p.Kids[0]
	if !x.builtin || len(p.Kids) != 3 || f.Kind != syntax.Dot || f.Text != "create" || f.Kids[0].Kind != syntax.Name {
		return ""
	}
	_, e := num.Kind(x.name)
	isFloat := x.name == "F32" || x.name == "F64"
	argument := p.Kids[2].Kind
	if e != api.OK || argument != syntax.IntLit && (argument != syntax.FloatLit || !isFloat) {
		return ""
	}
	return x.name
}
