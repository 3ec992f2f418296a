package check

import (
	"slices"
	"strconv"
	"unicode/utf8"

	"hackamore/api"
	"hackamore/cap"
	"hackamore/exprs"
	"hackamore/num"
	"hackamore/types"
)

// node is an expression whose type is asked for: where it stands, and the types of its Kids.
type node struct {
	*program
	at   Context
	x    api.Expr
	kids []api.Type
}

// rules returns what finds the types of the operations.
func rules() [api.OpLast + 1]func(n node) (api.Type, api.Errno) {
	return [...]func(n node) (api.Type, api.Errno){
		api.OpLit:      node.literal,
		api.OpLocal:    node.local,
		api.OpThis:     node.this,
		api.OpGet:      node.get,
		api.OpSet:      node.set,
		api.OpVar:      node.declare,
		api.OpLet:      node.declare,
		api.OpAssign:   node.assign,
		api.OpConsume:  node.consume,
		api.OpSeq:      node.seq,
		api.OpIf:       node.choice,
		api.OpWhile:    node.while,
		api.OpMatch:    node.match,
		api.OpCase:     node.matchCase,
		api.OpTry:      node.try,
		api.OpError:    node.leave,
		api.OpReturn:   node.back,
		api.OpBreak:    node.leave,
		api.OpContinue: node.leave,
		api.OpCall:     node.call,
		api.OpNew:      node.construct,
		api.OpRecover:  node.recovered,
		api.OpTuple:    node.tuple,
		api.OpItem:     node.item,
		api.OpIs:       node.is,
		api.OpUnit:     node.unit,
	}
}

// rule returns the type of an expression, by those of its Kids.
func (g *program) rule(c Context, x api.Expr, kids []api.Type) (api.Type, api.Errno) {
	switch {
	case len(kids) != len(x.Kids):
		return api.Type{}, api.ErrSize
	case !g.has(c.Entity, c.Method):
		return api.Type{}, api.ErrRange
	case !isFormed(x):
		return api.Type{}, api.ErrForm
	}
	t, e := rules()[x.Op](node{g, c, x, kids})
	if e != api.OK {
		return api.Type{}, e
	}
	return exprs.CloneType(t), api.OK
}

// where returns the entity and the method in which an expression stands.
func (n node) where() (api.Entity, api.Method) {
	x := n.list[n.at.Entity]
	return x, x.Methods[n.at.Method]
}

// innermost returns the number of the innermost recover block around a place.
func (c Context) innermost() int {
	if len(c.Regions) == 0 {
		return 0
	}
	return c.Regions[len(c.Regions)-1]
}

// union returns the union of types that are not zero, or the zero Type.
func union(l ...api.Type) (api.Type, api.Errno) {
	var some []api.Type
	for _, t := range l {
		if !isZero(t) {
			some = append(some, t)
		}
	}
	if len(some) == 0 {
		return api.Type{}, api.OK
	}
	return types.Union(some)
}

// held returns the type of a further reference to what stays where it is.
func held(t api.Type) (api.Type, api.Errno) {
	t, e := types.Aliased(t)
	if e != api.OK {
		return api.Type{}, e
	}
	return types.Aliased(t)
}

// orNone returns the type of a Kid, which is that of None if there is none.
func (n node) orNone(i int) api.Type {
	if isNone(n.x.Kids[i]) {
		return none()
	}
	return n.kids[i]
}

func (n node) literal() (api.Type, api.Errno) {
	t := n.x.Types[0]
	t.Cap, t.Mark = api.Val, api.Plain
	e := api.OK
	switch t.Name {
	case "Bool":
		if n.x.Text != "true" && n.x.Text != "false" {
			e = api.ErrForm
		}
	case "String":
		if !utf8.ValidString(n.x.Text) {
			e = api.ErrForm
		}
	default:
		_, e = num.Parse(t.Name, n.x.Text)
	}
	return t, e
}

// variable returns the local variable that an expression names.
func (n node) variable() (Local, api.Errno) {
	for _, l := range slices.Backward(n.at.Locals) {
		if l.Name != n.x.Text {
			continue
		}
		if l.Region != 0 && !slices.Contains(n.at.Regions, l.Region) {
			break
		}
		return l, api.OK
	}
	return Local{}, api.ErrScope
}

// met returns the type of the local variable whose value an expression takes.
func (n node) met() (api.Type, api.Errno) {
	l, e := n.variable()
	if e == api.OK && l.Region != n.at.innermost() && !types.Sendable(l.Type) {
		e = ErrSend
	}
	return l.Type, e
}

func (n node) local() (api.Type, api.Errno) {
	t, e := n.met()
	if e != api.OK {
		return api.Type{}, e
	}
	return held(t)
}

func (n node) consume() (api.Type, api.Errno) {
	t, e := n.met()
	if e != api.OK {
		return api.Type{}, e
	}
	return types.Consumed(t)
}

func (n node) this() (api.Type, api.Errno) {
	x, m := n.where()
	t, e := types.Aliased(types.Named(x.Name, receiver(x, m), nil))
	if e == api.OK && len(n.at.Regions) > 0 && !types.Sendable(t) {
		e = ErrSend
	}
	return t, e
}

// field returns the field of the first Kid.
func (n node) field() (api.Field, api.Errno) {
	t := n.kids[0]
	x, ok := n.entity(t.Name)
	if t.Kind != api.TypeName || !ok || !hasFields(x) {
		return api.Field{}, api.ErrType
	}
	i := slices.IndexFunc(x.Fields, func(f api.Field) bool { return f.Name == n.x.Text })
	if i < 0 {
		return api.Field{}, api.ErrNone
	}
	return x.Fields[i], api.OK
}

func (n node) get() (api.Type, api.Errno) {
	f, e := n.field()
	if e != api.OK {
		return api.Type{}, e
	}
	t, e := types.Seen(counted(n.kids[0]), f.Type)
	if e != api.OK {
		return api.Type{}, ErrView
	}
	return types.Aliased(t)
}

func (n node) set() (api.Type, api.Errno) {
	f, e := n.field()
	_, m := n.where()
	origin := counted(n.kids[0])
	isMaking := n.x.Kids[0].Op == api.OpThis && m.Kind == api.New
	switch {
	case e != api.OK:
		return api.Type{}, e
	case f.Let && !isMaking:
		return api.Type{}, ErrPlace
	case !cap.Writes(origin):
		return api.Type{}, ErrView
	case !n.fits(n.kids[1], f.Type):
		return api.Type{}, ErrResult
	case !types.Storable(origin, n.kids[1]):
		return api.Type{}, ErrSend
	}
	old, e := types.Extracted(origin, f.Type)
	if e != api.OK {
		return api.Type{}, ErrView
	}
	if isMaking {
		return union(old, none())
	}
	return old, api.OK
}

func (n node) declare() (api.Type, api.Errno) {
	t := n.x.Types[0]
	if !isHeld(t) {
		return api.Type{}, api.ErrForm
	}
	if len(n.kids) > 0 && !n.fits(n.kids[0], t) {
		return api.Type{}, ErrResult
	}
	return none(), api.OK
}

func (n node) assign() (api.Type, api.Errno) {
	l, e := n.variable()
	switch {
	case e != api.OK:
		return api.Type{}, e
	case l.Param:
		return api.Type{}, ErrPlace
	case l.Region != n.at.innermost():
		return api.Type{}, ErrSend
	case !n.fits(n.kids[0], l.Type):
		return api.Type{}, ErrResult
	}
	old, e := types.Consumed(l.Type)
	if e != api.OK || l.Always {
		return old, e
	}
	return union(old, none())
}

func (n node) seq() (api.Type, api.Errno) {
	if len(n.kids) == 0 {
		return none(), api.OK
	}
	return n.kids[len(n.kids)-1], api.OK
}

func (n node) choice() (api.Type, api.Errno) {
	if !n.fits(n.kids[0], boolean()) {
		return api.Type{}, api.ErrType
	}
	return union(n.kids[1], n.orNone(2))
}

func (n node) while() (api.Type, api.Errno) {
	if !n.fits(n.kids[0], boolean()) {
		return api.Type{}, api.ErrType
	}
	return union(n.kids[1], n.orNone(2), none())
}

func (n node) try() (api.Type, api.Errno) { return union(n.kids[0], n.orNone(1)) }

// leave finds the type of what never has a value.
func (n node) leave() (api.Type, api.Errno) { return api.Type{}, api.OK }

// back finds the type of a return.
func (n node) back() (api.Type, api.Errno) {
	x, m := n.where()
	want, value := none(), none()
	if m.Kind == api.Fun && !isZero(m.Result) {
		var e api.Errno
		if want, e = types.Self(m.Result, receiver(x, m), api.Plain); e != api.OK {
			return api.Type{}, e
		}
	}
	if len(n.kids) > 0 {
		value = n.kids[0]
	}
	if !n.fits(value, want) {
		return api.Type{}, ErrResult
	}
	return api.Type{}, api.OK
}

func (n node) recovered() (api.Type, api.Errno) {
	if isZero(n.kids[0]) {
		return api.Type{}, api.OK
	}
	t, e := types.Recovered(n.kids[0], n.x.Types[0].Cap)
	if e != api.OK {
		return api.Type{}, ErrSend
	}
	return t, api.OK
}

func (n node) tuple() (api.Type, api.Errno) {
	if slices.ContainsFunc(n.kids, isZero) {
		return api.Type{}, api.OK
	}
	t := api.Type{Kind: api.TypeTuple, Args: n.kids}
	if types.Check(t) != api.OK {
		return api.Type{}, api.ErrSize
	}
	return t, api.OK
}

func (n node) item() (api.Type, api.Errno) {
	t := n.kids[0]
	if t.Kind != api.TypeTuple {
		return api.Type{}, api.ErrType
	}
	i, _ := strconv.Atoi(n.x.Text)
	if i >= len(t.Args) {
		return api.Type{}, api.ErrRange
	}
	return t.Args[i], api.OK
}

func (n node) is() (api.Type, api.Errno) { return boolean(), api.OK }

func (n node) unit() (api.Type, api.Errno) {
	t := n.x.Types[0]
	x, ok := n.entity(t.Name)
	_, e := num.Kind(t.Name)
	if !ok || x.Kind != api.Primitive || e == api.OK || t.Name == "Bool" {
		return api.Type{}, api.ErrType
	}
	t.Cap, t.Mark = api.Val, api.Plain
	return t, api.OK
}
