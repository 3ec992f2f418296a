// Package draw makes types, programs and bodies for tests: the same ones for the same seed.
package draw

import "hackamore/api"

// Maker draws. Names are entities without type arguments, Generic ones with one; Params are type parameters. Without Marks no
// type has a mark, without Arrows there are none, and without Open each part has a capability.
type Maker struct {
	Names, Generic, Params []string
	Marks, Arrows, Open    bool
	state                  uint64
}

// New returns a maker with a seed.
func New(seed uint64) *Maker {
	return &Maker{state: seed*2862933555777941757 + 3037000493}
}

// Below returns a number from 0 to n - 1.
func (m *Maker) Below(n int) int {
	m.state = m.state*6364136223846793005 + 1442695040888963407
	return int(m.state>>33) % n
}

// One returns one element of a list.
func One[T any](m *Maker, l ...T) T { return l[m.Below(len(l))] }

// Cap returns a capability of objects.
func (m *Maker) Cap() int { return api.Iso + m.Below(6) }

// mark returns a mark, if there are any.
func (m *Maker) mark() int {
	if !m.Marks {
		return api.Plain
	}
	return One(m, api.Plain, api.Plain, api.Ephemeral, api.Aliased)
}

// maybeCap returns a capability, or none where types may be open.
func (m *Maker) maybeCap() int {
	if m.Open && m.Below(2) == 0 {
		return api.CapNone
	}
	return m.Cap()
}

// Type returns a type of at most a depth.
func (m *Maker) Type(depth int) api.Type {
	if depth <= 1 {
		return m.leaf()
	}
	switch m.Below(8) {
	case 0:
		return api.Type{Kind: api.TypeUnion, Args: m.types(2+m.Below(3), depth-1)}
	case 1:
		return api.Type{Kind: api.TypeBoth, Args: m.types(2+m.Below(2), depth-1)}
	case 2:
		return api.Type{Kind: api.TypeTuple, Args: m.types(2+m.Below(2), depth-1)}
	case 3:
		if m.Arrows {
			return api.Type{Kind: api.TypeArrow, Args: []api.Type{m.origin(), m.Type(depth - 1)}}
		}
	case 4, 5:
		if len(m.Generic) > 0 {
			return api.Type{Kind: api.TypeName, Name: One(m, m.Generic...), Cap: m.Cap(), Mark: m.mark(), Args: m.types(1, depth-1)}
		}
	}
	return m.leaf()
}

func (m *Maker) types(n, depth int) []api.Type {
	var l []api.Type
	for range n {
		l = append(l, m.Type(depth))
	}
	return l
}

func (m *Maker) leaf() api.Type {
	if len(m.Params) > 0 && m.Below(3) == 0 {
		return m.param()
	}
	if m.Arrows && m.Below(8) == 0 {
		return api.Type{Kind: api.TypeSelf, Cap: m.maybeCap(), Mark: m.mark()}
	}
	return api.Type{Kind: api.TypeName, Name: One(m, m.Names...), Cap: m.Cap(), Mark: m.mark()}
}

func (m *Maker) param() api.Type {
	return api.Type{Kind: api.TypeParam, Name: One(m, m.Params...), Cap: m.maybeCap(), Mark: m.mark()}
}

// origin returns what may be the first one of an arrow.
func (m *Maker) origin() api.Type {
	if len(m.Params) > 0 && m.Below(2) == 0 {
		return m.param()
	}
	return api.Type{Kind: api.TypeSelf, Cap: m.maybeCap(), Mark: m.mark()}
}

// Spoil changes one node of a type, so that it often is none.
func (m *Maker) Spoil(t api.Type) api.Type {
	if len(t.Args) > 0 && m.Below(3) > 0 {
		i := m.Below(len(t.Args))
		args := append([]api.Type{}, t.Args...)
		args[i] = m.Spoil(args[i])
		t.Args = args
		return t
	}
	switch m.Below(6) {
	case 0:
		t.Kind = m.Below(10) - 1
	case 1:
		t.Name = One(m, "", "x", "\xff", "a b")
	case 2:
		t.Cap = m.Below(14) - 1
	case 3:
		t.Mark = m.Below(6) - 2
	case 4:
		t.Args = nil
	case 5:
		t.Args = append([]api.Type{m.leaf()}, t.Args...)
	}
	return t
}
