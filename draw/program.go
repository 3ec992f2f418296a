package draw

import (
	"strconv"

	"hackamore/api"
)

// Shape says what programs have.
type Shape struct {
	Entities  int
	Generic   bool // entities with a type parameter
	Methods   bool // methods with a type parameter
	Arguments bool // calls with type arguments
}

func named(name string, c int) api.Type {
	return api.Type{Kind: api.TypeName, Name: name, Cap: c}
}

// Program returns a program whose entities have names of one letter and a number behind `main.`, with some of the builtin ones
// ahead, and an actor main.Main at its end.
func (m *Maker) Program(s Shape) []api.Entity {
	p := []api.Entity{
		{Kind: api.Interface, Name: "Any", Cap: api.Tag},
		{Kind: api.Primitive, Name: "None", Cap: api.Val},
		{Kind: api.Primitive, Name: "U32", Cap: api.Val, Methods: []api.Method{{Kind: api.Fun, Name: "f", Cap: api.Box, Result: named("None", api.Val)}}},
	}
	m.Names, m.Generic = []string{"None", "U32"}, nil
	for i := range s.Entities {
		x := api.Entity{Kind: One(m, api.Class, api.Class, api.Actor, api.Primitive, api.Trait, api.Trait, api.Interface, api.Interface)}
		x.Name = "main." + string("?CAPTI"[x.Kind]) + strconv.Itoa(i)
		x.Cap = [...]int{0, api.Ref, api.Tag, api.Val, api.Ref, api.Ref}[x.Kind]
		if s.Generic && m.Below(3) == 0 {
			x.Bounds = []api.Bound{{Name: "A", Type: m.constraint()}}
			m.Generic = append(m.Generic, x.Name)
		} else {
			m.Names = append(m.Names, x.Name)
		}
		p = append(p, x)
	}
	for i := 3; i < len(p); i++ {
		m.fill(&p[i], p[3:i], s)
	}
	create := api.Method{Kind: api.New, Name: "create", Cap: api.Tag}
	m.Params = nil
	create.Body = m.Body(3, s)
	return append(p, api.Entity{Kind: api.Actor, Name: "main.Main", Cap: api.Tag, Fields: []api.Field{{Name: "x", Type: m.Type(3)}}, Methods: []api.Method{create}})
}

// constraint returns the type of a bound.
func (m *Maker) constraint() api.Type {
	return named("Any", One(m, api.CapAny, api.CapAny, api.CapSend, api.Tag))
}

// fill gives an entity what it provides, out of some, and its members.
func (m *Maker) fill(x *api.Entity, ahead []api.Entity, s Shape) {
	m.Params = nil
	if len(x.Bounds) > 0 {
		m.Params = []string{"A"}
	}
	for range m.Below(3) {
		if len(ahead) == 0 {
			break
		}
		t := One(m, ahead...)
		if t.Kind < api.Trait {
			continue
		}
		provided := named(t.Name, t.Cap)
		if len(t.Bounds) > 0 {
			provided.Args = m.types(1, 1+m.Below(2))
		}
		x.Provides = append(x.Provides, provided)
	}
	if x.Kind < api.Primitive {
		x.Fields = append(x.Fields, api.Field{Name: "x", Type: m.Type(2)})
		x.Methods = append(x.Methods, api.Method{Kind: api.New, Name: "create", Cap: One(m, api.Ref, api.Val, api.Iso), Result: named("None", api.Val)})
	}
	for i := range 3 {
		if m.Below(3) > 0 {
			x.Methods = append(x.Methods, m.method(string("fgh"[i]), x.Kind, s))
		}
	}
}

func (m *Maker) method(name string, kind int, s Shape) api.Method {
	f := api.Method{Kind: api.Fun, Name: name, Cap: One(m, api.Box, api.Box, api.Ref, api.Val, api.Tag), Partial: m.Below(6) == 0}
	own := m.Params
	if s.Methods && m.Below(4) == 0 {
		f.Bounds = []api.Bound{{Name: "X", Type: named("Any", One(m, api.Tag, api.Tag, api.Val, api.CapAny))}}
		m.Params = append([]string{"X"}, own...)
	}
	for i := range m.Below(3) {
		f.Params = append(f.Params, api.Param{Name: string("xyz"[i]), Type: m.Type(1 + m.Below(2))})
	}
	if m.Below(4) > 0 {
		f.Result = m.Type(1 + m.Below(2))
	}
	if kind < api.Trait || kind == api.Trait && m.Below(2) == 0 {
		f.Body = m.Body(1+m.Below(3), s)
	}
	m.Params = own
	return f
}

// Body returns a body with types of the program.
func (m *Maker) Body(depth int, s Shape) api.Expr {
	if depth <= 1 {
		return api.Expr{Op: api.OpThis}
	}
	kids := func(n int) []api.Expr {
		var l []api.Expr
		for range n {
			l = append(l, m.Body(depth-1, s))
		}
		return l
	}
	switch m.Below(5) {
	case 0:
		return api.Expr{Op: api.OpLet, Text: One(m, "a", "b"), Types: []api.Type{m.Type(2)}, Kids: kids(1)}
	case 1:
		return api.Expr{Op: api.OpCall, Text: One(m, "f", "g", "h"), Types: m.arguments(s), Kids: kids(1 + m.Below(2))}
	case 2:
		made := named(One(m, m.Names...), api.Ref)
		if len(m.Generic) > 0 && m.Below(2) == 0 {
			made = named(One(m, m.Generic...), api.Ref)
			made.Args = m.types(1, 1)
		}
		return api.Expr{Op: api.OpNew, Text: "create", Types: append([]api.Type{made}, m.arguments(s)...), Kids: kids(m.Below(2))}
	case 3:
		return api.Expr{Op: api.OpSeq, Kids: kids(m.Below(4))}
	}
	return api.Expr{Op: api.OpThis}
}

// arguments returns the type arguments of a call.
func (m *Maker) arguments(s Shape) []api.Type {
	if !s.Arguments || m.Below(3) > 0 {
		return nil
	}
	return m.types(1, 1+m.Below(2))
}
