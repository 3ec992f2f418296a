package world

import (
	"hackamore/api"
	"hackamore/exprs"
)

// programError returns the error of the program of a world.
func (w *World) programError() api.Errno {
	p := w.state.Program
	if len(p) > api.MaxUnits {
		return api.ErrSize
	}
	if len(w.entities) < len(p) {
		return api.ErrTwice
	}
	main, isMain := w.entity(api.Actor, "main.Main")
	create, _ := ownMethod(main, "create")
	_, isOut := w.entity(api.Actor, "Out")
	env, isEnv := w.entity(api.Class, "Env")
	if !isMain || create.Kind != api.New || len(create.Params) != 1 || !isOut || !isEnv || !hasFields(env, "out", "args", "root") {
		return ErrMethod
	}
	return api.OK
}

// hasFields reports whether the fields of an entity have just these names.
func hasFields(x api.Entity, names ...string) bool {
	if len(x.Fields) != len(names) {
		return false
	}
	for i, name := range names {
		if x.Fields[i].Name != name {
			return false
		}
	}
	return true
}

// entity returns the entity with a name, if it is of a kind.
func (w *World) entity(kind int, name string) (api.Entity, bool) {
	i, ok := w.entities[name]
	if !ok || w.state.Program[i].Kind != kind {
		return api.Entity{}, false
	}
	return w.state.Program[i], true
}

// ownMethod returns the method with a name that an entity has itself.
func ownMethod(x api.Entity, name string) (api.Method, bool) {
	for _, m := range x.Methods {
		if m.Name == name {
			return m, true
		}
	}
	return api.Method{}, false
}

// Entity returns the entity with a name.
func (w *World) Entity(name string) (api.Entity, api.Errno) {
	if w == nil {
		return api.Entity{}, api.ErrArg
	}
	i, ok := w.entities[name]
	if !ok {
		return api.Entity{}, ErrMethod
	}
	return exprs.CloneEntity(w.state.Program[i]), api.OK
}

// Method returns a method of an entity.
func (w *World) Method(typ, name string) (api.Method, api.Errno) {
	if w == nil {
		return api.Method{}, api.ErrArg
	}
	m, ok := w.method(typ, name, map[string]bool{})
	if !ok {
		return api.Method{}, ErrMethod
	}
	return exprs.CloneMethod(m), api.OK
}

// method returns a method of an entity, or of what this provides, but for the entities that were looked at.
func (w *World) method(typ, name string, met map[string]bool) (api.Method, bool) {
	i, ok := w.entities[typ]
	if !ok || met[typ] {
		return api.Method{}, false
	}
	met[typ] = true
	x := w.state.Program[i]
	if m, ok := ownMethod(x, name); ok {
		return m, true
	}
	for _, t := range x.Provides {
		if t.Kind != api.TypeName {
			continue
		}
		if m, ok := w.method(t.Name, name, met); ok {
			return m, true
		}
	}
	return api.Method{}, false
}
