package world

import (
	"slices"
	"strings"

	"hackamore/api"
	"hackamore/num"
	"hackamore/values"
)

// textType is the Type of Strings.
const textType = "String"

// maxElements is the greatest number of elements of an Array.
const maxElements = 10000

// isArray reports whether a Type is that of Arrays.
func isArray(typ string) bool { return strings.HasPrefix(typ, "Array[") && strings.HasSuffix(typ, "]") }

// hasActor reports whether an actor with a number is there.
func (w *World) hasActor(n int) bool {
	return 0 <= n && n < len(w.state.Actors) && w.state.Actors[n].Type != ""
}

// hadActor reports whether an actor with a number is there, or was taken away.
func (w *World) hadActor(n int) bool { return 0 <= n && n < len(w.state.Actors) }

// hasCell reports whether an object with a number is there.
func (w *World) hasCell(n int) bool {
	return 0 <= n && n < len(w.state.Cells) && w.state.Cells[n].Type != ""
}

// isValue reports whether a value is right.
func (w *World) isValue(v api.Value) bool {
	if v.Kind != api.ValTuple {
		return w.isPart(v)
	}
	parts, levels := values.Size(v)
	return parts <= values.Most && levels <= api.MaxTree && w.isPart(v)
}

// isPart reports whether a value is right, whatever its size is.
func (w *World) isPart(v api.Value) bool {
	n := int(v.Lo)
	switch v.Kind {
	case api.ValNone:
		return v.Lo == 0 && isBare(v)
	case api.ValObject:
		return v.Lo < api.MaxCells && w.hasCell(n) && isBare(v)
	case api.ValActor:
		return v.Lo < api.MaxActors && w.hasActor(n) && isBare(v)
	case api.ValUnit:
		_, ok := w.entity(api.Primitive, v.Name)
		return ok && v.Lo == 0 && v.Hi == 0 && len(v.Kids) == 0
	case api.ValTuple:
		return v.Lo == 0 && v.Hi == 0 && v.Name == "" && len(v.Kids) > 1 && !slices.ContainsFunc(v.Kids, w.isNoPart)
	}
	return num.Check(v) == api.OK
}

// isBare reports whether a value has nothing but a Kind and Lo.
func isBare(v api.Value) bool { return v.Hi == 0 && v.Name == "" && len(v.Kids) == 0 }

// isNoPart reports whether a value may not be an element of a tuple, whatever its size is.
func (w *World) isNoPart(v api.Value) bool { return v.Kind == api.ValNone || !w.isPart(v) }

// isNothing reports whether a value may not be an argument, an element of an Array, or what a field becomes.
func (w *World) isNothing(v api.Value) bool { return v.Kind == api.ValNone || !w.isValue(v) }

// isBroken reports whether a value may not be that of a field.
func (w *World) isBroken(v api.Value) bool { return !w.isValue(v) }

// isRight reports whether the state of a world, whose program has no error, is right.
func (w *World) isRight() bool {
	s := w.state
	if len(s.Actors) > api.MaxActors || len(s.Cells) > api.MaxCells || w.mail > api.MaxMail {
		return false
	}
	if len(s.Trace) > api.MaxFuel || len(s.Output) > api.MaxFuel {
		return false
	}
	for i := range s.Actors {
		if !w.isActor(i) {
			return false
		}
	}
	return !slices.ContainsFunc(s.Cells, w.isNoCell)
}

// isActor reports whether an actor is as it has to be, or was taken away.
func (w *World) isActor(n int) bool {
	a := w.state.Actors[n]
	if a.Type == "" {
		return len(a.Fields) == 0 && len(a.Mail) == 0
	}
	x, ok := w.entity(api.Actor, a.Type)
	if !ok || len(a.Fields) != len(x.Fields) || slices.ContainsFunc(a.Fields, w.isBroken) {
		return false
	}
	for _, m := range a.Mail {
		if m.To != n || m.From != -1 && !w.hadActor(m.From) || len(m.Name) > api.MaxName || slices.ContainsFunc(m.Args, w.isNothing) {
			return false
		}
	}
	return true
}

// isNoCell reports whether an object is not as it has to be, and was not taken away.
func (w *World) isNoCell(c api.Cell) bool {
	if c.Type == "" {
		return c.Owner != 0 || len(c.Fields) > 0 || c.Bytes != ""
	}
	if !w.hadActor(c.Owner) {
		return true
	}
	if c.Type == textType {
		return len(c.Fields) > 0 || isLong(c.Bytes)
	}
	if isArray(c.Type) {
		return c.Bytes != "" || len(c.Fields) > maxElements || slices.ContainsFunc(c.Fields, w.isNothing)
	}
	x, ok := w.entity(api.Class, c.Type)
	return !ok || c.Bytes != "" || len(c.Fields) != len(x.Fields) || slices.ContainsFunc(c.Fields, w.isBroken)
}
