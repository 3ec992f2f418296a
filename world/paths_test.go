package world_test

import (
	"slices"
	"sort"
	"testing"

	"hackamore/api"
	"hackamore/cap"
	"hackamore/draw"
	"hackamore/notation"
	"hackamore/types"
	"hackamore/world"
)

// viewed returns what a value sees of objects with which capabilities, by the chapter's words, as a set.
func viewed(w *world.World, x api.Value, t api.Type, origin int) map[[2]int]bool {
	l := map[[2]int]bool{}
	join := func(more map[[2]int]bool) {
		for v := range more {
			l[v] = true
		}
	}
	switch t.Kind {
	case api.TypeName:
		c := t.Cap
		if t.Mark == api.Aliased && c == api.Iso {
			c = api.Tag
		}
		if t.Mark == api.Aliased && c == api.Trn {
			c = api.Box
		}
		if seen, ok := cap.View(origin, c); ok && w.Is(x, t) && x.Kind == api.ValObject {
			l[[2]int{int(x.Lo), seen}] = true
		}
	case api.TypeUnion, api.TypeBoth:
		for _, a := range t.Args {
			join(viewed(w, x, a, origin))
		}
	case api.TypeArrow:
		join(viewed(w, x, t.Args[1], origin))
	case api.TypeTuple:
		for i, k := range x.Kids {
			if x.Kind == api.ValTuple && len(x.Kids) == len(t.Args) {
				join(viewed(w, k, t.Args[i], origin))
			}
		}
	}
	if t.Kind != api.TypeUnion {
		return l
	}
	least := map[[2]int]bool{}
	for v := range l {
		least[v] = true
		for other := range l {
			if other[0] == v[0] && other[1] != v[1] && cap.Sub(v[1], other[1]) {
				delete(least, v)
			}
		}
	}
	return least
}

// elementsOf tells the types of the elements of the Arrays of these tests.
var elementsOf = map[string]string{
	"Array[main.N ref]": "main.N ref", "Array[main.N val]": "main.N val", "Array[(main.N iso | None val)]": "(main.N iso | None val)",
	"Array[Array[main.N ref] ref]": `"Array[main.N ref]" ref`, "Array[(main.N tag, main.N box)]": "(main.N tag, main.N box)",
	"Array[$A]": "$A", "Array[(this -> main.N trn!)]": "(this -> main.N trn!)",
	"Array[]": "", "Array[x]": "", "Array[main.N]": "",
}

// reached returns the paths of a state, found by going on until there are no more.
func reached(w *world.World) []world.Path {
	s := w.State()
	entity := map[string]api.Entity{}
	for _, x := range s.Program {
		entity[x.Name] = x
	}
	met := map[world.Path]bool{}
	join := func(a, m int, l map[[2]int]bool) {
		for v := range l {
			met[world.Path{Actor: a, Message: m, Cell: v[0], Cap: v[1]}] = true
		}
	}
	for i, a := range s.Actors {
		for j, v := range a.Fields {
			join(i, -1, viewed(w, v, entity[a.Type].Fields[j].Type, api.Ref))
		}
		for j, m := range a.Mail {
			called, e := w.Method(a.Type, m.Name)
			if e != api.OK || len(called.Params) != len(m.Args) {
				continue
			}
			for k, v := range m.Args {
				join(i, j, viewed(w, v, called.Params[k].Type, api.Ref))
			}
		}
	}
	for before := -1; before < len(met); {
		before = len(met)
		for _, p := range listed(met) {
			origin := p.Cap
			if origin == api.Tag {
				continue
			}
			if origin == api.Iso || origin == api.Trn {
				origin = api.Ref
			}
			c := s.Cells[p.Cell]
			for i, v := range c.Fields {
				t := entity[c.Type].Fields
				if typ, ok := elementsOf[c.Type]; ok {
					join(p.Actor, p.Message, viewed(w, v, notation.Type(typ), origin))
				} else {
					join(p.Actor, p.Message, viewed(w, v, t[i].Type, origin))
				}
			}
		}
	}
	return listed(met)
}

func listed(met map[world.Path]bool) []world.Path {
	var l []world.Path
	for p := range met {
		l = append(l, p)
	}
	sort.Slice(l, func(i, j int) bool {
		a, b := l[i], l[j]
		if a.Actor != b.Actor {
			return a.Actor < b.Actor
		}
		if a.Message != b.Message {
			return a.Message < b.Message
		}
		if a.Cell != b.Cell {
			return a.Cell < b.Cell
		}
		return a.Cap < b.Cap
	})
	return l
}

// raced returns the first race among paths.
func raced(l []world.Path) (world.Path, world.Path, bool) {
	for _, p := range l {
		for _, q := range l {
			if p.Cell == q.Cell && (p.Actor != q.Actor || p.Message != q.Message) && cap.Writes(p.Cap) && q.Cap != api.Tag {
				return p, q, true
			}
		}
	}
	return world.Path{}, world.Path{}, false
}

// fieldTypes are the types of the fields and parameters of drawn programs.
func fieldTypes(m *draw.Maker) api.Type {
	if m.Below(3) > 0 {
		t := types.Named(draw.One(m, "main.N", "main.N", "main.T", "main.I"), m.Cap(), nil)
		t.Mark = draw.One(m, api.Plain, api.Plain, api.Aliased, api.Ephemeral)
		return t
	}
	return notation.Type(draw.One(m,
		"(main.N ref | None val)", "(main.N iso | main.N val | main.T ref)", "(main.N ref | main.N box | main.I tag)", "(main.N trn | (main.T val | main.T box))",
		"(main.N ref & main.T ref)", "(main.N ref & main.T tag)", "(main.N ref, main.N tag)", "((main.N ref, main.N tag) | (main.N tag, main.N box))",
		"(main.N iso, (main.N val | None val))", "(this -> main.N ref)", "(this box -> (main.N ref | None val))", "$A ref", "this ref",
		`"Array[main.N ref]" ref`, `"Array[main.N val]" box`, `"Array[(main.N iso | None val)]" ref`, `"Array[Array[main.N ref] ref]" ref`, `"Array[(main.N tag, main.N box)]" ref`, `"Array[]" ref`,
		`"Array[$A]" ref`, `"Array[(this -> main.N trn!)]" ref`, `"Array[x]" ref`, `"Array[main.N]" ref`))
}

// heap returns a drawn state in which actors, messages and objects have each other.
func heap(m *draw.Maker) world.State {
	p := program("class ref main.N is main.T ref\nfun box get(): U32 val\nactor tag main.B")
	for name := range elementsOf {
		p = append(p, api.Entity{Kind: api.Class, Name: name, Cap: api.Ref})
	}
	sort.Slice(p, func(i, j int) bool { return p[i].Name < p[j].Name })
	for i := range p {
		switch p[i].Name {
		case "main.N":
			for _, name := range []string{"a", "b", "c"} {
				p[i].Fields = append(p[i].Fields, api.Field{Name: name, Type: fieldTypes(m)})
			}
		case "main.B":
			p[i].Fields = []api.Field{{Name: "a", Type: fieldTypes(m)}, {Name: "b", Type: fieldTypes(m)}}
			p[i].Methods = []api.Method{{Kind: api.Be, Name: "one", Params: []api.Param{{Name: "x", Type: fieldTypes(m)}}}, {Kind: api.Fun, Name: "two", Params: []api.Param{{Name: "x", Type: fieldTypes(m)}, {Name: "y", Type: fieldTypes(m)}}}}
		}
	}
	s := world.State{Program: p, Actors: []world.Actor{{Type: "Out"}, {Type: "main.Main", Fields: make([]api.Value, 1)}}}
	for range 2 + m.Below(2) {
		s.Actors = append(s.Actors, world.Actor{Type: "main.B"})
	}
	arrays := []string{}
	for name := range elementsOf {
		arrays = append(arrays, name)
	}
	slices.Sort(arrays)
	const cells = 9
	for i := range cells {
		c := api.Cell{Type: "main.N", Owner: 1, Fields: make([]api.Value, 3)}
		if i > 5 {
			c = api.Cell{Type: draw.One(m, arrays...), Fields: make([]api.Value, m.Below(4))}
		}
		s.Cells = append(s.Cells, c)
	}
	value := func() api.Value {
		one := func() api.Value { return object(uint64(m.Below(cells))) }
		switch m.Below(6) {
		case 0:
			return tuple(one(), one())
		case 1:
			return none
		}
		return one()
	}
	for _, c := range s.Cells {
		for i := range c.Fields {
			c.Fields[i] = value()
		}
	}
	for i := 2; i < len(s.Actors); i++ {
		s.Actors[i].Fields = []api.Value{value(), {}}
		if m.Below(3) == 0 {
			s.Actors[i].Fields[1] = value()
		}
		for range m.Below(3) {
			msg := api.Message{From: -1, To: i, Name: draw.One(m, "one", "two", "three"), Args: []api.Value{value()}}
			if msg.Name == "two" && m.Below(4) > 0 {
				msg.Args = append(msg.Args, value())
			}
			s.Actors[i].Mail = append(s.Actors[i].Mail, msg)
		}
	}
	return s
}

// TestPaths is P17.1 for Paths and Race of drawn states, and P17.6.
func TestPaths(t *testing.T) {
	races, ways := 0, map[int]int{}
	for seed := range uint64(1500) {
		s := heap(draw.New(seed))
		w := loaded(t, s)
		got, want := w.Paths(), reached(w)
		if !slices.Equal(got, want) {
			t.Fatalf("seed %d: the paths are %v, not %v, of %s", seed, got, want, told(s.Cells))
		}
		a, b, ok := w.Race()
		c, d, race := raced(want)
		if a != c || b != d || ok != race {
			t.Fatalf("seed %d: the race is %v, %v, not %v, %v", seed, a, b, c, d)
		}
		if ok {
			races++
		}
		for _, p := range got {
			ways[p.Cap]++
		}
		dropped(t, w)
	}
	if races < 100 || races > 1400 || len(ways) != 6 {
		t.Errorf("%d races, paths by capabilities %v", races, ways)
	}
}

// dropped is P17.6: Drop of objects that nothing has changes no path.
func dropped(t *testing.T, w *world.World) {
	t.Helper()
	s := w.State()
	has := map[uint64]bool{}
	var mark func(l []api.Value)
	mark = func(l []api.Value) {
		for _, v := range l {
			if v.Kind == api.ValObject {
				has[v.Lo] = true
			}
			mark(v.Kids)
		}
	}
	for _, a := range s.Actors {
		mark(a.Fields)
		for _, m := range a.Mail {
			mark(m.Args)
		}
	}
	for _, c := range s.Cells {
		mark(c.Fields)
	}
	before := w.Paths()
	for i := range s.Cells {
		if !has[uint64(i)] {
			w.Drop(i)
		}
	}
	if !slices.Equal(w.Paths(), before) {
		t.Fatal("Drop changes paths")
	}
	settled(t, w)
}

// TestViews is P17.1 and P17.6: with which capability an object is reached in a field of each capability, through each one.
func TestViews(t *testing.T) {
	for origin := api.Iso; origin <= api.Tag; origin++ {
		for field := api.Iso; field <= api.Tag; field++ {
			for mark := range 3 {
				p := program("")
				for i := range p {
					switch p[i].Name {
					case "main.A":
						p[i].Fields[0].Type = types.Named("main.C", origin, nil)
					case "main.C":
						p[i].Fields[0].Type = types.Named("main.D", field, nil)
						p[i].Fields[0].Type.Mark = mark
					}
				}
				w := begun(t, p)
				ok := must(t)
				a, c, d := ok(w.Spawn("main.A")), ok(w.Make(1, "main.C")), ok(w.Make(1, "main.D"))
				ok(w.Set(a, "x", c))
				ok(w.Set(c, "a", d))
				want := []world.Path{{Actor: 2, Message: -1, Cell: int(c.Lo), Cap: origin}}
				from, counts := origin, field
				if from == api.Iso || from == api.Trn {
					from = api.Ref
				}
				if mark == api.Aliased && field == api.Iso {
					counts = api.Tag
				}
				if mark == api.Aliased && field == api.Trn {
					counts = api.Box
				}
				if seen, ok := cap.View(from, counts); ok {
					want = append(want, world.Path{Actor: 2, Message: -1, Cell: int(d.Lo), Cap: seen})
					if origin == api.Val && seen != api.Val && seen != api.Tag || origin == api.Tag {
						t.Errorf("%d is seen through %d", seen, origin)
					}
				}
				w.Take(1)
				if got := w.Paths(); !slices.Equal(got, want) {
					t.Errorf("the paths through %d to %d with the mark %d are %v", origin, field, mark, got)
				}
			}
		}
	}
}

// TestRaces is P17.1 for Race: which capabilities of two actors, of an actor and its message, and of two messages, are one.
func TestRaces(t *testing.T) {
	for a := api.Iso; a <= api.Tag; a++ {
		for b := api.Iso; b <= api.Tag; b++ {
			writes := func(c int) bool { return c == api.Iso || c == api.Trn || c == api.Ref }
			want := writes(a) && b != api.Tag || writes(b) && a != api.Tag
			p := program("actor tag main.X\nvar x: main.D val\nbe tag go(x: main.D val)\nactor tag main.Y\nvar x: main.D val\nbe tag go(x: main.D val)")
			for i := range p {
				switch p[i].Name {
				case "main.X":
					p[i].Fields[0].Type.Cap, p[i].Methods[0].Params[0].Type.Cap = a, b
				case "main.Y":
					p[i].Fields[0].Type.Cap, p[i].Methods[0].Params[0].Type.Cap = b, a
				}
			}
			worlds := map[string]func(w *world.World, x, y, d api.Value){
				"two actors":              func(w *world.World, x, y, d api.Value) { w.Set(x, "x", d); w.Set(y, "x", d) },
				"an actor and a message":  func(w *world.World, x, y, d api.Value) { w.Set(x, "x", d); send(w, x, d) },
				"two messages":            func(w *world.World, x, y, d api.Value) { send(w, x, d); send(w, y, d) },
				"an actor and another's":  func(w *world.World, x, y, d api.Value) { w.Set(y, "x", d); send(w, y, d) },
				"one actor and its field": nil,
			}
			for name, do := range worlds {
				w := begun(t, p)
				x, _ := w.Spawn("main.X")
				y, _ := w.Spawn("main.Y")
				d, _ := w.Make(1, "main.D")
				if do == nil {
					w.Set(x, "x", d)
				} else {
					do(w, x, y, d)
				}
				first, second, ok := w.Race()
				if ok != (want && do != nil) {
					t.Errorf("%d and %d of %s: a race is %v", a, b, name, ok)
				}
				c, e, _ := raced(w.Paths())
				if first != c || second != e {
					t.Errorf("%d and %d of %s: the race is %v, %v", a, b, name, first, second)
				}
			}
		}
	}
}

// send sends a message of one argument.
func send(w *world.World, to, v api.Value) {
	w.Send(api.Message{From: -1, To: int(to.Lo), Name: "go", Args: []api.Value{v}})
}

// TestFar is P17.1 for Paths: a method may be one that is provided, of any kind; a long list of objects comes to an end.
func TestFar(t *testing.T) {
	for name, want := range map[string]int{"far": 3001, "near": 0} {
		w := begun(t, program("trait ref main.Y\nfun box far(c: main.C val)\nactor tag main.X is main.Y ref"))
		w.Take(1)
		x, _ := w.Spawn("main.X")
		c, _ := w.Make(1, "main.C")
		if e := w.Send(api.Message{From: -1, To: int(x.Lo), Name: name, Args: []api.Value{c}}); e != api.OK {
			t.Fatalf("Send: error %d", e)
		}
		last := c
		for range 3000 {
			next, _ := w.Make(1, "main.C")
			w.Set(last, "a", next)
			last = next
		}
		w.Set(last, "a", c)
		if got := w.Paths(); len(got) != want {
			t.Errorf("%d paths of %s", len(got), name)
		}
	}
}

// TestElements is P17.1 for the element types of Arrays, which are flat.
func TestElements(t *testing.T) {
	two := "main.G[U8 val, (main.D ref | None val)]"
	for name, c := range map[string]struct {
		element string // the Type of the element, or of the second one of a tuple
		tuple   bool
		cap     int // with which it is reached, 0 if it is not
	}{
		"Array[main.D ref]":                                {"main.D", false, api.Ref},
		"Array[main.D box]":                                {"main.D", false, api.Box},
		"Array[main.C ref]":                                {"main.D", false, 0},
		"Array[main.D val, main.D ref]":                    {"main.D", false, api.Val},
		"Array[Array[main.D ref] val]":                     {"Array[main.D ref]", false, api.Val},
		"Array[Array[main.D ref] tag]":                     {"Array[main.D val]", false, 0},
		"Array[" + two + " trn]":                           {two, false, api.Trn},
		"Array[main.G[U8 val] trn]":                        {two, false, 0},
		"Array[(None val | main.G[U8 val] iso)]":           {"main.G[U8 val]", false, api.Iso},
		"Array[(main.G[U8 val] box & main.G[U8 val] box)]": {"main.G[U8 val]", false, api.Box},
		"Array[(this -> main.G[U8 val] ref)]":              {"main.G[U8 val]", false, api.Ref},
		"Array[(U8 val, " + two + " box)]":                 {two, true, api.Box},
		"Array[(U8 val, U8 val, main.D ref)]":              {"main.D", true, 0},
		"Array[main.G[main.H[U8 val] ref] ref!]":           {"main.G[main.H[U8 val] ref]", false, api.Ref},
		"Array[main.G[U8 val] iso!]":                       {"main.G[U8 val]", false, api.Tag},
		"Array[main.D]":                                    {"main.D", false, 0},
		"Array[]":                                          {"main.D", false, 0},
		`Array["main.D" ref]`:                              {"main.D", false, 0},
		"Array[main.D  ref]":                               {"main.D", false, 0},
	} {
		p := program("")
		for _, more := range []string{name, two, "main.G[U8 val]", "main.G[main.H[U8 val] ref]", "Array[main.D ref]", "Array[main.D val]"} {
			if more != name || more[:6] == "Array[" && len(without(p, more)) == len(p) {
				p = append(without(p, more), api.Entity{Kind: api.Class, Name: more, Cap: api.Ref})
			}
		}
		for i := range p {
			if p[i].Name == "main.A" {
				p[i].Fields[0].Type = types.Named(name, api.Ref, nil)
			}
		}
		w := begun(t, p)
		w.Take(1)
		ok := must(t)
		a, d := ok(w.Spawn("main.A")), ok(w.Make(1, c.element))
		x := d
		if c.tuple {
			x = tuple(u8(1), d)
		}
		l := ok(w.Array(1, name, []api.Value{x}))
		ok(w.Set(a, "x", l))
		want := []world.Path{{Actor: 2, Message: -1, Cell: int(l.Lo), Cap: api.Ref}}
		if c.cap != 0 {
			want = append([]world.Path{{Actor: 2, Message: -1, Cell: int(d.Lo), Cap: c.cap}}, want...)
		}
		if got := w.Paths(); !slices.Equal(got, want) {
			t.Errorf("the paths of an %s are %v, not %v", name, got, want)
		}
	}
}

// TestWrongTypes is P17.1 for Paths with types that are none, and with tuples of other lengths.
func TestWrongTypes(t *testing.T) {
	d := notation.Type("main.D ref")
	three := api.Type{Kind: api.TypeTuple, Args: []api.Type{d, d, d}}
	for name, c := range map[string]struct {
		t    api.Type
		x    api.Value
		want int
	}{
		"an arrow of one":      {api.Type{Kind: api.TypeArrow, Args: []api.Type{d}}, object(2), 0},
		"an arrow of none":     {api.Type{Kind: api.TypeArrow}, object(2), 0},
		"an arrow of three":    {api.Type{Kind: api.TypeArrow, Args: []api.Type{{}, d, {}}}, object(2), 1},
		"the zero type":        {api.Type{}, object(2), 0},
		"a type of a kind":     {api.Type{Kind: 99, Args: []api.Type{d}}, object(2), 0},
		"a longer tuple":       {three, tuple(object(2), object(2)), 0},
		"a shorter tuple":      {three, tuple(object(2), object(2), object(2), object(2)), 0},
		"a tuple":              {three, tuple(object(2), none, object(2)), 1},
		"no tuple":             {three, object(2), 0},
		"a union of one":       {api.Type{Kind: api.TypeUnion, Args: []api.Type{d}}, object(2), 1},
		"a set":                {types.Named("main.D", api.CapAny, nil), object(2), 0},
		"a name with its args": {types.Named("main.D", api.Ref, []api.Type{d}), object(2), 0},
	} {
		p := program("")
		for i := range p {
			if p[i].Name == "main.A" {
				p[i].Fields[0].Type = c.t
			}
		}
		w := begun(t, p) // objects 0 and 1
		w.Take(1)
		ok := must(t)
		a := ok(w.Spawn("main.A"))
		ok(w.Make(1, "main.D"))
		ok(w.Set(a, "x", c.x))
		if got := w.Paths(); len(got) != c.want {
			t.Errorf("%s: the paths are %v", name, got)
		}
	}
}
