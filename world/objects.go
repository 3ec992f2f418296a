package world

import (
	"slices"

	"hackamore/api"
	"hackamore/num"
	"hackamore/subtype"
	"hackamore/types"
	"hackamore/values"
)

// room returns the error of making an object for an actor, but for that of the limit of objects.
func (w *World) room(actor int) api.Errno {
	if w == nil {
		return api.ErrArg
	}
	if !w.hasActor(actor) {
		return api.ErrNone
	}
	return api.OK
}

// make makes an object, if there is room for one.
func (w *World) make(c api.Cell) (api.Value, api.Errno) {
	if len(w.state.Cells) >= api.MaxCells {
		return api.Value{}, api.ErrFull
	}
	return w.addCell(c), api.OK
}

// Make makes an object whose fields have no values. One of a class that is named as Strings or Arrays are is one of these.
func (w *World) Make(actor int, typ string) (api.Value, api.Errno) {
	if e := w.room(actor); e != api.OK {
		return api.Value{}, e
	}
	x, ok := w.entity(api.Class, typ)
	if !ok || typ == "" {
		return api.Value{}, ErrMethod
	}
	c := api.Cell{Type: typ, Owner: actor}
	if typ != textType && !isArray(typ) {
		c.Fields = make([]api.Value, len(x.Fields))
	}
	return w.make(c)
}

// Text makes a String.
func (w *World) Text(actor int, bytes string) (api.Value, api.Errno) {
	if e := w.room(actor); e != api.OK {
		return api.Value{}, e
	}
	if isLong(bytes) {
		return api.Value{}, api.ErrLarge
	}
	return w.make(api.Cell{Type: textType, Owner: actor, Bytes: bytes})
}

// Array makes an Array.
func (w *World) Array(actor int, typ string, l []api.Value) (api.Value, api.Errno) {
	if e := w.room(actor); e != api.OK {
		return api.Value{}, e
	}
	if !isArray(typ) {
		return api.Value{}, ErrMethod
	}
	if len(l) > maxElements {
		return api.Value{}, api.ErrFull
	}
	if slices.ContainsFunc(l, w.isNothing) {
		return api.Value{}, ErrBroken
	}
	return w.make(api.Cell{Type: typ, Owner: actor, Fields: values.CloneAll(l)})
}

// field returns where a field of an object of a class, or of an actor, stands.
func (w *World) field(v api.Value, name string) (*api.Value, api.Errno) {
	if w == nil {
		return nil, api.ErrArg
	}
	if !w.isValue(v) {
		return nil, ErrBroken
	}
	var x api.Entity
	var fields []api.Value
	switch v.Kind {
	case api.ValObject:
		c := w.state.Cells[v.Lo]
		if c.Type == textType || isArray(c.Type) {
			return nil, ErrMethod
		}
		x, _ = w.entity(api.Class, c.Type)
		fields = c.Fields
	case api.ValActor:
		a := w.state.Actors[v.Lo]
		x, _ = w.entity(api.Actor, a.Type)
		fields = a.Fields
	}
	i := slices.IndexFunc(x.Fields, func(f api.Field) bool { return f.Name == name })
	if i < 0 {
		return nil, ErrMethod
	}
	return &fields[i], api.OK
}

// Get returns the value of a field.
func (w *World) Get(v api.Value, field string) (api.Value, api.Errno) {
	f, e := w.field(v, field)
	if e != api.OK {
		return api.Value{}, e
	}
	if f.Kind == api.ValNone {
		return api.Value{}, ErrUnset
	}
	return values.Clone(*f), api.OK
}

// Set changes a field, and returns what it had.
func (w *World) Set(v api.Value, field string, x api.Value) (api.Value, api.Errno) {
	f, e := w.field(v, field)
	if e != api.OK {
		return api.Value{}, e
	}
	if w.isNothing(x) {
		return api.Value{}, ErrBroken
	}
	old := *f
	*f = values.Clone(x)
	return old, api.OK
}

// Type returns the name of the entity of a value, "" for a tuple or none.
func (w *World) Type(v api.Value) string {
	if w == nil {
		return ""
	}
	switch v.Kind {
	case api.ValBool:
		return "Bool"
	case api.ValObject:
		if v.Lo < uint64(len(w.state.Cells)) {
			return w.state.Cells[v.Lo].Type
		}
		return ""
	case api.ValActor:
		if v.Lo < uint64(len(w.state.Actors)) {
			return w.state.Actors[v.Lo].Type
		}
		return ""
	case api.ValUnit:
		return v.Name
	}
	name, _ := num.Name(v.Kind)
	return name
}

// Is reports whether a value is of a type, without regard to capabilities.
func (w *World) Is(v api.Value, t api.Type) bool { return w != nil && w.isValue(v) && w.is(v, t) }

// is reports it of a right value.
func (w *World) is(v api.Value, t api.Type) bool {
	isOf := func(t api.Type) bool { return w.is(v, t) }
	isNotOf := func(t api.Type) bool { return !w.is(v, t) }
	switch t.Kind {
	case api.TypeUnion:
		return slices.ContainsFunc(t.Args, isOf)
	case api.TypeBoth:
		return !slices.ContainsFunc(t.Args, isNotOf)
	case api.TypeTuple:
		return v.Kind == api.ValTuple && slices.EqualFunc(v.Kids, t.Args, w.is)
	case api.TypeArrow:
		return len(t.Args) > 1 && isOf(t.Args[1])
	case api.TypeName:
		name := w.Type(v)
		return v.Kind != api.ValTuple && name != "" && subtype.Bare(w.state.Program, types.Named(name, api.Val, nil), t)
	}
	return false
}

// Same reports whether two values are the same.
func Same(a, b api.Value) bool { return values.Same(a, b) }

// Drop takes an object away.
func (w *World) Drop(cell int) api.Errno {
	if w == nil {
		return api.ErrArg
	}
	if !w.hasCell(cell) {
		return api.ErrNone
	}
	w.state.Cells[cell] = api.Cell{}
	return api.OK
}

// Remove takes an actor away.
func (w *World) Remove(actor int) api.Errno {
	if w == nil {
		return api.ErrArg
	}
	if !w.hasActor(actor) {
		return api.ErrNone
	}
	if len(w.state.Actors[actor].Mail) > 0 {
		return api.ErrState
	}
	w.state.Actors[actor] = Actor{}
	return api.OK
}
