package types

import (
	"cmp"
	"slices"

	"hackamore/api"
	"hackamore/cap"
	"hackamore/exprs"
)

// Subst returns a type in which type parameters are replaced.
func Subst(t api.Type, params []string, args []api.Type) (api.Type, api.Errno) {
	if len(params) != len(args) {
		return api.Type{}, api.ErrArg
	}
	if e := Check(t); e != api.OK {
		return api.Type{}, e
	}
	if e := checkAll(args); e != api.OK {
		return api.Type{}, e
	}
	return whole(binding{params, args}.in(t))
}

// binding says what stands for type parameters.
type binding struct {
	params []string
	args   []api.Type
}

// of returns what a type becomes if it is a type parameter that is replaced.
func (b binding) of(t api.Type) (api.Type, bool) {
	i := slices.Index(b.params, t.Name)
	if t.Kind != api.TypeParam || i < 0 {
		return api.Type{}, false
	}
	arg := exprs.CloneType(b.args[i])
	if t.Cap != api.CapNone {
		arg = withCap(arg, t.Cap)
	}
	switch t.Mark {
	case api.Ephemeral:
		arg = marked(arg, cap.Consumed)
	case api.Aliased:
		arg = marked(arg, held)
	}
	return arg, true
}

// held returns what a reference is of which one knows no more than that somebody holds it.
func held(c, mark int) (int, int) {
	if mark == api.Ephemeral {
		c, mark = cap.Alias(c, mark)
	}
	return cap.Alias(c, mark)
}

// in returns a type with its type parameters replaced.
func (b binding) in(t api.Type) (api.Type, api.Errno) {
	if arg, ok := b.of(t); ok {
		return arg, api.OK
	}
	var args []api.Type
	for i, a := range t.Args {
		replace := b.in
		if t.Kind == api.TypeArrow && i == 0 {
			replace = b.origin
		}
		r, e := replace(a)
		if e != api.OK {
			return api.Type{}, e
		}
		args = append(args, r)
	}
	t.Args = args
	return t, api.OK
}

// origin returns the first one of an arrow, replaced.
func (b binding) origin(t api.Type) (api.Type, api.Errno) {
	arg, ok := b.of(t)
	if !ok {
		return exprs.CloneType(t), api.OK
	}
	switch arg.Kind {
	case api.TypeName, api.TypeSelf:
		return api.Type{Kind: api.TypeSelf, Cap: arg.Cap, Mark: arg.Mark}, api.OK
	case api.TypeParam:
		return arg, api.OK
	}
	return api.Type{}, api.ErrForm
}

// Self returns a type in which the receiver has a capability.
func Self(t api.Type, c, mark int) (api.Type, api.Errno) {
	switch e := Check(t); {
	case e != api.OK:
		return api.Type{}, e
	case !cap.Is(c):
		return api.Type{}, api.ErrCap
	case !isMark(mark):
		return api.Type{}, api.ErrArg
	}
	return whole(received(exprs.CloneType(t), c, mark))
}

// received returns a type, which it may change, with a capability for the receiver.
func received(t api.Type, c, mark int) (api.Type, api.Errno) {
	for i, a := range t.Args {
		r, e := received(a, c, mark)
		if e != api.OK {
			return api.Type{}, e
		}
		t.Args[i] = r
	}
	if t.Kind == api.TypeSelf && t.Cap == api.CapNone {
		t.Cap, t.Mark = c, mark
	}
	if isSeen(t) {
		return seen(counted(t.Args[0]), t.Args[1])
	}
	return t, api.OK
}

// Method returns a method in whose types type parameters are replaced.
func Method(m api.Method, params []string, args []api.Type) (api.Method, api.Errno) {
	if len(params) != len(args) {
		return api.Method{}, api.ErrArg
	}
	if !exprs.IsSmall(m.Body) {
		return api.Method{}, api.ErrSize
	}
	b := &bodies{binding: binding{params, args}, wrong: checkAll(args)}
	var bounds []api.Bound
	for _, x := range m.Bounds {
		if !slices.Contains(params, x.Name) {
			bounds = append(bounds, api.Bound{Name: x.Name, Type: b.typ(x.Type)})
		}
	}
	m.Bounds = bounds
	m.Params = slices.Clone(m.Params)
	for i, p := range m.Params {
		m.Params[i].Type = b.typ(p.Type)
	}
	m.Result = b.typ(m.Result)
	m.Body = b.expr(m.Body)
	if e := cmp.Or(b.e, b.wrong); e != api.OK {
		return api.Method{}, e
	}
	return m, api.OK
}

// bodies replaces type parameters in all types of a method, up to the first error. What is wrong with the arguments is told
// behind what is wrong with the first type.
type bodies struct {
	binding
	wrong api.Errno
	e     api.Errno
}

func (b *bodies) typ(t api.Type) api.Type {
	if b.e != api.OK || t.Kind == 0 {
		return exprs.CloneType(t)
	}
	b.e = cmp.Or(Check(t), b.wrong)
	if b.e != api.OK {
		return api.Type{}
	}
	t, b.e = whole(b.in(t))
	return t
}

func (b *bodies) expr(x api.Expr) api.Expr {
	if b.e != api.OK {
		return api.Expr{}
	}
	var types []api.Type
	for _, t := range x.Types {
		types = append(types, b.typ(t))
	}
	var kids []api.Expr
	for _, k := range x.Kids {
		kids = append(kids, b.expr(k))
	}
	x.Types, x.Kids = types, kids
	return x
}
