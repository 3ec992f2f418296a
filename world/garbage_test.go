package world_test

import (
	"testing"

	"hackamore/api"
	"hackamore/draw"
	"hackamore/world"
)

// garbage draws values, types and states of which little is right.
type garbage struct{ *draw.Maker }

func (g garbage) number() uint64 {
	return draw.One[uint64](g.Maker, 0, 1, 2, 3, 9, 300, 1<<31, 1<<63, 1<<64-1)
}

func (g garbage) text() string {
	return draw.One(g.Maker, "", "x", "a", "string", "main.C", "main.A", "main.N", "None", "String", "Array[", "Array[x]", "Array[main.C ref]", "Array[(main.C ref | None val)]", "\xff", "create", "apply")
}

func (g garbage) value(depth int) api.Value {
	v := api.Value{Kind: g.Below(30) - 3}
	if g.Below(3) == 0 {
		v = draw.One(g.Maker, object(g.number()), actor(g.number()), unit(g.text()), usize(g.number()), u8(1))
	}
	if g.Below(6) == 0 {
		v.Lo, v.Hi, v.Name = g.number(), g.number(), g.text()
	}
	if depth > 0 && g.Below(3) == 0 {
		v.Kind = draw.One(g.Maker, api.ValTuple, v.Kind)
		v.Kids = g.values(g.Below(4), depth-1)
	}
	return v
}

func (g garbage) values(n, depth int) []api.Value {
	var l []api.Value
	for range n {
		l = append(l, g.value(depth))
	}
	return l
}

func (g garbage) typ() api.Type {
	m := draw.New(uint64(g.Below(1 << 30)))
	m.Names, m.Generic, m.Params, m.Marks, m.Arrows, m.Open = []string{"main.C", "main.T", "main.N", "None", "U8", "x"}, []string{"Array"}, []string{"A"}, true, true, true
	t := m.Type(1 + g.Below(3))
	if g.Below(2) == 0 {
		t = m.Spoil(t)
	}
	return t
}

func (g garbage) state() world.State {
	s := heap(g.Maker)
	for i, x := range s.Program {
		for j := range x.Fields {
			s.Program[i].Fields[j].Type = g.typ()
		}
		for j := range x.Methods {
			for k := range x.Methods[j].Params {
				s.Program[i].Methods[j].Params[k].Type = g.typ()
			}
		}
		if g.Below(20) == 0 {
			s.Program[i].Provides = []api.Type{g.typ(), g.typ()}
		}
	}
	for g.Below(3) == 0 {
		switch g.Below(5) {
		case 0:
			s.Actors = append(s.Actors, world.Actor{Type: g.text(), Fields: g.values(g.Below(3), 2)})
		case 1:
			s.Cells = append(s.Cells, api.Cell{Type: g.text(), Owner: g.Below(9) - 2, Fields: g.values(g.Below(3), 2), Bytes: g.text()})
		case 2:
			a := &s.Actors[g.Below(len(s.Actors))]
			a.Mail = append(a.Mail, api.Message{From: g.Below(9) - 2, To: g.Below(9) - 2, Name: g.text(), Args: g.values(g.Below(3), 2)})
		case 3:
			s.Program[g.Below(len(s.Program))].Kind = g.Below(7) - 1
		case 4:
			s.Program[g.Below(len(s.Program))].Name = g.text()
		}
	}
	return s
}

// TestGarbage is P1 and P2 for drawn states, values and types: nothing panics, and what is done twice is the same.
func TestGarbage(t *testing.T) {
	right := 0
	for seed := range uint64(500) {
		var both [2]string
		for turn := range both {
			g := garbage{draw.New(seed)}
			s := g.state()
			w, e := world.Load(s)
			if e != world.Check(s) {
				t.Fatalf("seed %d: Load: error %d", seed, e)
			}
			if e == api.OK && turn == 0 {
				right++
			}
			both[turn] = told(g.acts(w))
		}
		if both[0] != both[1] {
			t.Fatalf("seed %d: %s and %s", seed, both[0], both[1])
		}
	}
	if right < 100 {
		t.Errorf("%d states are right", right)
	}
}

// acts does something with all methods of a world, which may be nil, and returns what they do.
func (g garbage) acts(w *world.World) []any {
	var l []any
	put := func(x ...any) { l = append(l, x...) }
	for range 12 {
		n, v := g.Below(9)-2, g.value(3)
		got, e := w.Set(v, g.text(), g.value(3))
		put(got, e)
		got, e = w.Get(v, g.text())
		put(got, e)
		got, e = w.Make(n, g.text())
		put(got, e)
		got, e = w.Text(n, g.text())
		put(got, e)
		got, e = w.Array(n, g.text(), g.values(g.Below(3), 2))
		put(got, e)
		got, e = w.Spawn(g.text())
		put(got, e)
		got, raised, e := w.Call(n, v, g.text(), g.values(g.Below(3), 2))
		put(got, raised, e, w.Type(v), w.Is(v, g.typ()), world.Same(v, g.value(2)))
		put(w.Send(api.Message{From: n, To: g.Below(9) - 2, Name: g.text(), Args: g.values(g.Below(3), 2)}))
		s, e := w.Show(v)
		put(s, e)
		m, e := w.Take(n)
		put(m, e)
		method, e := w.Method(g.text(), g.text())
		put(method, e, w.Ready(), w.Dump())
		a, b, race := w.Race()
		put(a, b, race, w.Paths())
		if g.Below(4) == 0 {
			put(w.Drop(g.Below(12)-1), w.Remove(n))
		}
	}
	return append(l, w.State())
}
