package exprs

import (
	"slices"

	"hackamore/api"
)

// CloneMethod returns a method that shares no memory with this one.
func CloneMethod(m api.Method) api.Method {
	m.Bounds, m.Params = slices.Clone(m.Bounds), slices.Clone(m.Params)
	for i, b := range m.Bounds {
		m.Bounds[i].Type = CloneType(b.Type)
	}
	for i, p := range m.Params {
		m.Params[i].Type = CloneType(p.Type)
	}
	m.Result, m.Body = CloneType(m.Result), Clone(m.Body)
	return m
}

// CloneEntity returns an entity that shares no memory with this one.
func CloneEntity(x api.Entity) api.Entity {
	x.Bounds, x.Provides = slices.Clone(x.Bounds), CloneTypes(x.Provides)
	for i, b := range x.Bounds {
		x.Bounds[i].Type = CloneType(b.Type)
	}
	x.Fields, x.Methods = slices.Clone(x.Fields), slices.Clone(x.Methods)
	for i, f := range x.Fields {
		x.Fields[i].Type = CloneType(f.Type)
	}
	for i, m := range x.Methods {
		x.Methods[i] = CloneMethod(m)
	}
	return x
}

// CloneEntities returns entities that share no memory with these.
func CloneEntities(l []api.Entity) []api.Entity {
	l = slices.Clone(l)
	for i, x := range l {
		l[i] = CloneEntity(x)
	}
	return l
}
