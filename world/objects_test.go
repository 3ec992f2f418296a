package world_test

import (
	"strings"
	"testing"

	"hackamore/api"
	"hackamore/notation"
	"hackamore/world"
)

// full changes a state to one with as many objects as there may be, less some.
func full(s *world.State, less int) {
	s.Cells = append(s.Cells, make([]api.Cell, 20000-less-len(s.Cells))...)
}

// TestMakers is P17.1 for Make, Text and Array: their errors, each ahead of those behind it, and what they make.
func TestMakers(t *testing.T) {
	make_ := func(actor int, typ string) func(w *world.World) (api.Value, api.Errno) {
		return func(w *world.World) (api.Value, api.Errno) { return w.Make(actor, typ) }
	}
	text := func(actor int, s string) func(w *world.World) (api.Value, api.Errno) {
		return func(w *world.World) (api.Value, api.Errno) { return w.Text(actor, s) }
	}
	array := func(actor int, typ string, l ...api.Value) func(w *world.World) (api.Value, api.Errno) {
		return func(w *world.World) (api.Value, api.Errno) { return w.Array(actor, typ, l) }
	}
	long := strings.Repeat("x", 20000)
	wrong := append(many(10000), object(99))
	for name, c := range map[string]struct {
		less int // how many objects there may still be
		do   func(w *world.World) (api.Value, api.Errno)
		e    api.Errno
		want api.Cell
	}{
		"an object":                      {1, make_(2, "main.C"), api.OK, api.Cell{Type: "main.C", Owner: 2, Fields: make([]api.Value, 3)}},
		"an object without fields":       {1, make_(0, "main.D"), api.OK, api.Cell{Type: "main.D"}},
		"an object of no actor":          {0, make_(4, "main.X"), api.ErrNone, api.Cell{}},
		"an object of -1":                {0, make_(-1, "main.C"), api.ErrNone, api.Cell{}},
		"an object of a removed actor":   {1, make_(3, "main.C"), api.ErrNone, api.Cell{}},
		"an actor":                       {0, make_(1, "main.A"), world.ErrMethod, api.Cell{}},
		"a primitive":                    {1, make_(1, "None"), world.ErrMethod, api.Cell{}},
		"a trait":                        {1, make_(1, "main.S"), world.ErrMethod, api.Cell{}},
		"nothing":                        {1, make_(1, ""), world.ErrMethod, api.Cell{}},
		"a String that is made":          {1, make_(1, "String"), api.OK, api.Cell{Type: "String", Owner: 1}},
		"an Array that is made":          {1, make_(1, "Array[main.D ref]"), api.OK, api.Cell{Type: "Array[main.D ref]", Owner: 1}},
		"an Array of no class":           {1, make_(1, "Array[U8 val]"), world.ErrMethod, api.Cell{}},
		"one object too many":            {0, make_(1, "main.C"), api.ErrFull, api.Cell{}},
		"a String":                       {1, text(2, "a\x00b"), api.OK, api.Cell{Type: "String", Owner: 2, Bytes: "a\x00b"}},
		"a String of 20000 bytes":        {1, text(2, long), api.OK, api.Cell{Type: "String", Owner: 2, Bytes: long}},
		"a String of 20001 bytes":        {0, text(2, long+"x"), api.ErrLarge, api.Cell{}},
		"a String of no actor":           {0, text(3, long+"x"), api.ErrNone, api.Cell{}},
		"one String too many":            {0, text(2, ""), api.ErrFull, api.Cell{}},
		"an Array":                       {1, array(2, "Array[x]", u8(1), tuple(object(4), none)), api.OK, api.Cell{Type: "Array[x]", Owner: 2, Fields: []api.Value{u8(1), tuple(object(4), none)}}},
		"an Array without elements":      {1, array(0, "Array[]"), api.OK, api.Cell{Type: "Array[]"}},
		"an Array with another name":     {0, array(0, "Array[", wrong...), world.ErrMethod, api.Cell{}},
		"an Array with yet another name": {1, array(0, "array[x]"), world.ErrMethod, api.Cell{}},
		"an Array with a letter behind":  {1, array(0, "Array[x] "), world.ErrMethod, api.Cell{}},
		"an Array of no actor":           {0, array(4, "Array["), api.ErrNone, api.Cell{}},
		"an Array of 10000 elements":     {1, array(0, "Array[x]", many(10000)...), api.OK, api.Cell{Type: "Array[x]", Fields: many(10000)}},
		"an Array of 10001 elements":     {0, array(0, "Array[x]", wrong...), api.ErrFull, api.Cell{}},
		"an Array with a wrong element":  {0, array(0, "Array[x]", wrong[1:]...), world.ErrBroken, api.Cell{}},
		"an Array with none":             {0, array(0, "Array[x]", u8(1), api.Value{}), world.ErrBroken, api.Cell{}},
		"one Array too many":             {0, array(0, "Array[x]", u8(1)), api.ErrFull, api.Cell{}},
	} {
		s := varied(t)
		s.Program = append(s.Program, notation.Program("class ref \"Array[main.D ref]\"\nvar a: U8 val")...)
		s.Program[len(s.Program)-1].Name = "Array[main.D ref]"
		s.Program[6].Fields = []api.Field{{Name: "a"}}
		if s.Program[6].Name != "String" {
			t.Fatal("the entity is not String")
		}
		full(&s, c.less)
		w := loaded(t, s)
		v, e := c.do(w)
		if e != c.e {
			t.Errorf("%s: error %d, not %d", name, e, c.e)
		}
		want := api.Value{}
		if c.e == api.OK {
			want = object(uint64(len(s.Cells)))
			s.Cells = append(s.Cells, c.want)
		}
		got := w.State()
		if told(v) != told(want) || told(got.Cells) != told(s.Cells) || world.Check(got) != api.OK {
			t.Errorf("%s: the value is %s", name, told(v))
		}
	}
}

// TestFields is P17.1 for Get and Set.
func TestFields(t *testing.T) {
	for name, c := range map[string]struct {
		v     api.Value
		field string
		get   api.Errno
		want  api.Value // what is there
		x     api.Value
		set   api.Errno
	}{
		"an object":                {object(4), "c", api.OK, u32(7), u8(9), api.OK},
		"an object's own":          {object(4), "a", api.OK, object(4), tuple(u8(1), none), api.OK},
		"an object without it":     {object(4), "b", world.ErrUnset, api.Value{}, object(4), api.OK},
		"an object with no such":   {object(4), "d", world.ErrMethod, api.Value{}, object(99), world.ErrMethod},
		"an actor":                 {actor(2), "y", api.OK, tuple(object(6), tuple(actor(2), u8(255))), object(4), api.OK},
		"an actor without it":      {actor(1), "last", world.ErrUnset, api.Value{}, object(4), api.OK},
		"an actor with no such":    {actor(0), "x", world.ErrMethod, api.Value{}, object(4), world.ErrMethod},
		"what is not right":        {object(8), "c", world.ErrBroken, api.Value{}, object(99), world.ErrBroken},
		"an actor that was there":  {actor(3), "x", world.ErrBroken, api.Value{}, u8(1), world.ErrBroken},
		"a tuple that is wrong":    {tuple(u8(1)), "c", world.ErrBroken, api.Value{}, u8(1), world.ErrBroken},
		"none":                     {api.Value{}, "c", world.ErrMethod, api.Value{}, u8(1), world.ErrMethod},
		"a number":                 {u8(4), "c", world.ErrMethod, api.Value{}, object(99), world.ErrMethod},
		"a unit":                   {none, "c", world.ErrMethod, api.Value{}, u8(1), world.ErrMethod},
		"a tuple":                  {tuple(object(4), object(4)), "c", world.ErrMethod, api.Value{}, u8(1), world.ErrMethod},
		"a String":                 {object(7), "a", world.ErrMethod, api.Value{}, u8(1), world.ErrMethod},
		"an Array":                 {object(6), "a", world.ErrMethod, api.Value{}, u8(1), world.ErrMethod},
		"a value that is wrong":    {object(4), "b", world.ErrUnset, api.Value{}, object(99), world.ErrBroken},
		"a value that is none":     {object(4), "c", api.OK, u32(7), api.Value{}, world.ErrBroken},
		"one of two with one name": {object(5), "a", api.OK, u8(1), u8(3), api.OK},
	} {
		s := varied(t)
		for i, x := range s.Program {
			switch x.Name {
			case "main.D":
				s.Program[i].Fields = []api.Field{{Name: "a"}, {Name: "a"}}
			case "String":
				s.Program[i].Fields = []api.Field{{Name: "a"}}
			}
		}
		array := api.Entity{Kind: api.Class, Name: "Array[Any]", Fields: []api.Field{{Name: "a"}}}
		s.Program = append(s.Program, array)
		s.Cells[5].Fields = []api.Value{u8(1), u8(2)}
		w := loaded(t, s)
		if v, e := w.Get(c.v, c.field); e != c.get || told(v) != told(c.want) {
			t.Errorf("%s: Get is %s, error %d", name, told(v), e)
		}
		before := told(s)
		if told(w.State()) != before {
			t.Errorf("%s: Get changes the state", name)
		}
		v, e := w.Set(c.v, c.field, c.x)
		if e != c.set || e == api.OK && told(v) != told(c.want) || e != api.OK && told(v) != told(api.Value{}) {
			t.Errorf("%s: Set is %s, error %d", name, told(v), e)
		}
		if c.set != api.OK {
			if told(w.State()) != before {
				t.Errorf("%s: Set changes the state", name)
			}
			continue
		}
		if v, e := w.Get(c.v, c.field); e != api.OK || told(v) != told(c.x) {
			t.Errorf("%s: the field is %s, error %d", name, told(v), e)
		}
		*place(s, c.v, c.field) = c.x
		if told(w.State()) != told(s) {
			t.Errorf("%s: Set changes something else", name)
		}
		settled(t, w)
	}
}

// place returns where a field stands in a state.
func place(s world.State, v api.Value, field string) *api.Value {
	typ, fields := "", []api.Value(nil)
	if v.Kind == api.ValObject {
		typ, fields = s.Cells[v.Lo].Type, s.Cells[v.Lo].Fields
	} else {
		typ, fields = s.Actors[v.Lo].Type, s.Actors[v.Lo].Fields
	}
	for _, x := range s.Program {
		for i, f := range x.Fields {
			if x.Name == typ && f.Name == field {
				return &fields[i]
			}
		}
	}
	return nil
}

// TestType is P17.1 for Type.
func TestType(t *testing.T) {
	w := loaded(t, varied(t))
	for _, c := range []struct {
		v    api.Value
		want string
	}{
		{truth(1), "Bool"}, {u8(1), "U8"}, {usize(1), "USize"}, {api.Value{Kind: api.ValNumber}, "I8"}, {api.Value{Kind: api.ValNumber + 13}, "F64"},
		{object(4), "main.C"}, {object(6), "Array[Any]"}, {object(7), "String"}, {object(8), ""}, {object(9), ""}, {object(1 << 63), ""},
		{actor(0), "Out"}, {actor(2), "main.A"}, {actor(3), ""}, {actor(4), ""}, {actor(1 << 63), ""},
		{none, "None"}, {unit("main.X"), "main.X"}, {tuple(u8(1), u8(2)), ""}, {api.Value{}, ""}, {api.Value{Kind: api.ValNumber + 14}, ""}, {api.Value{Kind: 7}, ""},
	} {
		if got := w.Type(c.v); got != c.want {
			t.Errorf("Type of %s is %q, not %q", told(c.v), got, c.want)
		}
	}
}

// TestIs is P17.1 for Is.
func TestIs(t *testing.T) {
	w := loaded(t, varied(t))
	two := tuple(object(4), u8(1))
	for _, c := range []struct {
		v    api.Value
		t    string
		want bool
	}{
		{object(4), "main.C ref", true}, {object(4), "main.C val", true}, {object(4), "main.C iso!", true}, {object(4), "main.C tag", true},
		{object(4), "main.T iso", true}, {object(4), "main.S ref", true}, {object(4), "main.I val", true}, {object(4), "main.D ref", false},
		{object(5), "main.I ref", false}, {actor(2), "main.I tag", true}, {actor(2), "main.T tag", true}, {actor(2), "main.A val", true}, {actor(0), "main.A tag", false},
		{u8(1), "U8 val", true}, {u8(1), "U32 val", false}, {truth(1), "Bool ref", true}, {none, "None val", true}, {unit("AmbientAuth"), "None val", false},
		{object(7), "String box", true}, {object(6), "Array[Any val] ref", false}, {object(6), `"Array[Any]" ref`, true},
		{object(4), "(None val | main.C iso)", true}, {object(4), "(None val | main.D ref)", false}, {object(4), "(main.D ref | (None val | main.C tag))", true},
		{object(4), "(main.C ref & main.T val)", true}, {object(4), "(main.C ref & main.D val)", false}, {object(4), "(main.D ref & main.C val)", false},
		{two, "(main.C ref, U8 val)", true}, {two, "(main.T ref, (None val | U8 val))", true}, {two, "(U8 val, main.C ref)", false}, {two, "(main.C ref, U8 val, U8 val)", false},
		{two, "main.C ref", false}, {two, "(None val | (main.C ref, U8 val))", true}, {object(4), "(main.C ref, main.C ref)", false},
		{tuple(two, two), "((main.C ref, U8 val), (main.C ref, U8 val))", true}, {tuple(two, two), "((main.C ref, U8 val), (main.C ref, U32 val))", false},
		{object(4), "(this -> main.C ref)", true}, {object(4), "(this box -> (None val | main.C ref))", true}, {object(4), "(this -> main.D ref)", false}, {object(4), "($A -> main.C ref)", true},
		{object(4), "$A ref", false}, {object(4), "this ref", false},
		{object(8), "main.D ref", false}, {tuple(object(4), u8(1), object(9)), "(main.C ref, U8 val, main.C ref)", false}, {api.Value{}, "None val", false},
		{unit("main.C"), "main.C val", false}, {actor(3), "main.A tag", false},
	} {
		if got := w.Is(c.v, notation.Type(c.t)); got != c.want {
			t.Errorf("Is of %s and %s is %v", told(c.v), c.t, got)
		}
	}
	ofC := notation.Type("main.C ref")
	for name, c := range map[string]struct {
		t    api.Type
		want bool
	}{
		"the zero type":           {api.Type{}, false},
		"no alternative":          {api.Type{Kind: api.TypeUnion}, false},
		"one alternative":         {api.Type{Kind: api.TypeUnion, Args: []api.Type{ofC}}, true},
		"no part":                 {api.Type{Kind: api.TypeBoth}, true},
		"an arrow of one":         {api.Type{Kind: api.TypeArrow, Args: []api.Type{ofC}}, false},
		"an arrow of none":        {api.Type{Kind: api.TypeArrow}, false},
		"a name that is no type":  {api.Type{Kind: api.TypeName, Name: "main.C"}, false},
		"a kind that is none":     {api.Type{Kind: 8, Args: []api.Type{ofC}}, false},
		"a union of a wrong type": {api.Type{Kind: api.TypeUnion, Args: []api.Type{{}, ofC}}, true},
	} {
		if got := w.Is(object(4), c.t); got != c.want {
			t.Errorf("%s: Is is %v", name, got)
		}
	}
	if w.Is(object(9), api.Type{Kind: api.TypeBoth}) || !w.Is(api.Value{}, api.Type{Kind: api.TypeBoth}) {
		t.Error("Is of an intersection of nothing")
	}
}

// TestSame is P17.1 for Same.
func TestSame(t *testing.T) {
	l := []api.Value{{}, truth(0), truth(1), object(1), object(2), actor(1), unit("A"), unit("B"), u8(1), u32(1), tuple(u8(1), u8(2)), tuple(u8(1), u8(1)), tuple(u8(1), tuple(u8(1), u8(2))), {Hi: 1}}
	for i, a := range l {
		for j, b := range l {
			if world.Same(a, b) != (i == j) {
				t.Errorf("Same of %s and %s is %v", told(a), told(b), i != j)
			}
		}
	}
	if !world.Same(api.Value{Kids: []api.Value{}}, api.Value{}) {
		t.Error("no kids and none are not the same")
	}
}
