package check

import (
	"slices"

	"hackamore/api"
	"hackamore/subtype"
	"hackamore/types"
)

// program is a program, with what was asked of it before.
type program struct {
	list    []api.Entity
	methods map[[2]string]found // of the types with these texts, and of these names
	taken   map[string][]bool   // by the types with these texts, of the entities in order
}

// found is a method, if there is one.
type found struct {
	api.Method
	ok bool
}

func newProgram(p []api.Entity) *program {
	return &program{p, map[[2]string]found{}, map[string][]bool{}}
}

// has reports whether there is a method.
func (g *program) has(entity, method int) bool {
	return entity >= 0 && entity < len(g.list) && method >= 0 && method < len(g.list[entity].Methods)
}

// entity returns the entity that a name means.
func (g *program) entity(name string) (api.Entity, bool) {
	i, e := subtype.Find(g.list, name)
	if e != api.OK {
		return api.Entity{}, false
	}
	return g.list[i], true
}

// lookup returns the method that values of a type have.
func (g *program) lookup(t api.Type, name string) (api.Method, bool) {
	text, e := types.Text(t)
	if e != api.OK {
		return api.Method{}, false
	}
	key := [2]string{text, name}
	f, ok := g.methods[key]
	if !ok {
		f.Method, e = subtype.Lookup(g.list, t, name)
		f.ok = e == api.OK
		g.methods[key] = f
	}
	return f.Method, f.ok
}

// constructor returns the entity that an expression makes something of, its constructor, and the error if there is none.
func (g *program) constructor(x api.Expr) (api.Entity, api.Method, api.Errno) {
	t := x.Types[0]
	made, ok := g.entity(t.Name)
	if !ok || !isConcrete(made) || len(t.Args) > 0 || len(made.Bounds) > 0 {
		return api.Entity{}, api.Method{}, api.ErrType
	}
	i := slices.IndexFunc(made.Methods, func(m api.Method) bool { return m.Name == x.Text })
	if i < 0 || made.Methods[i].Kind != api.New {
		return api.Entity{}, api.Method{}, api.ErrNone
	}
	return made, made.Methods[i], api.OK
}

// raises reports whether an expression calls a partial method.
func (g *program) raises(x api.Expr, kids []api.Type) bool {
	switch x.Op {
	case api.OpCall:
		m, ok := g.lookup(kids[0], x.Text)
		return ok && m.Partial
	case api.OpNew:
		_, m, e := g.constructor(x)
		return e == api.OK && m.Partial
	}
	return false
}

// fits reports whether a value of a type may stand where another one is wanted.
func (g *program) fits(a, b api.Type) bool {
	return isZero(a) || subtype.Is(g.list, a, b)
}
