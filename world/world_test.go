package world_test

import (
	"reflect"
	"strings"
	"testing"

	"hackamore/api"
	"hackamore/notation"
	"hackamore/world"
)

// without returns a program without the entity with a name.
func without(p []api.Entity, name string) []api.Entity {
	var l []api.Entity
	for _, x := range p {
		if x.Name != name {
			l = append(l, x)
		}
	}
	return l
}

// filled returns the program of most tests with so many entities.
func filled(n int) []api.Entity {
	p := program("")
	for i := len(p); i < n; i++ {
		p = append(p, api.Entity{Kind: api.Class, Name: "x" + strings.Repeat("y", i)})
	}
	return p
}

// TestProgramErrors is P17.1 for the error of a program, in New, Check and Load.
func TestProgramErrors(t *testing.T) {
	main := func(methods string) []api.Entity {
		return append(without(program(""), "main.Main"), notation.Program("actor tag main.Main\n"+methods)...)
	}
	env := func(fields string) []api.Entity {
		return append(without(program(""), "Env"), notation.Program("class val Env\n"+fields)...)
	}
	right := "let out: Out tag\nlet args: Bool val\nlet root: Bool val\n"
	for name, c := range map[string]struct {
		p []api.Entity
		e api.Errno
	}{
		"right":                  {program(""), api.OK},
		"none":                   {nil, world.ErrMethod},
		"200":                    {filled(200), api.OK},
		"201":                    {filled(201), api.ErrSize},
		"201 and twice":          {append(filled(200), program("")[0]), api.ErrSize},
		"twice":                  {append(program(""), program("")[0]), api.ErrTwice},
		"twice and no main":      {append(without(program(""), "main.Main"), program("")[0]), api.ErrTwice},
		"no main":                {without(program(""), "main.Main"), world.ErrMethod},
		"main is a class":        {append(without(program(""), "main.Main"), notation.Program("class ref main.Main\nnew ref create(env: Env val)")...), world.ErrMethod},
		"no create":              {main("new tag make(env: Env val)"), world.ErrMethod},
		"create is a function":   {main("fun box create(env: Env val): None val"), world.ErrMethod},
		"create is a behaviour":  {main("be tag create(env: Env val)"), world.ErrMethod},
		"create has none":        {main("new tag create()"), world.ErrMethod},
		"create has two":         {main("new tag create(a: Env val; b: Env val)"), world.ErrMethod},
		"create of any type":     {main("new tag create(a: U32 val)"), api.OK},
		"the first create":       {main("new tag create()\nnew tag create(a: Env val)"), world.ErrMethod},
		"the first create is it": {main("new tag create(a: Env val)\nnew tag create()"), api.OK},
		"create of a trait":      {append(without(program(""), "main.Main"), notation.Program("actor tag main.Main is main.N ref\ntrait ref main.N\nnew ref create(env: Env val)")...), world.ErrMethod},
		"no Out":                 {without(program(""), "Out"), world.ErrMethod},
		"Out is a class":         {append(without(program(""), "Out"), notation.Program("class ref Out")...), world.ErrMethod},
		"no Env":                 {without(program(""), "Env"), world.ErrMethod},
		"Env is an actor":        {append(without(program(""), "Env"), notation.Program("actor ref Env\n"+right)...), world.ErrMethod},
		"Env":                    {env(right), api.OK},
		"Env has two":            {env("let out: Out tag\nlet args: Bool val"), world.ErrMethod},
		"Env has four":           {env(right + "let more: Bool val"), world.ErrMethod},
		"Env out of order":       {env("let args: Bool val\nlet out: Out tag\nlet root: Bool val"), world.ErrMethod},
		"Env with another name":  {env("let out: Out tag\nlet args: Bool val\nlet roots: Bool val"), world.ErrMethod},
	} {
		w, e := world.New(c.p, nil)
		if e != c.e || (w == nil) != (e != api.OK) {
			t.Errorf("%s: New: error %d, not %d", name, e, c.e)
		}
		s := world.State{Program: c.p}
		if e := world.Check(s); e != c.e {
			t.Errorf("%s: Check: error %d, not %d", name, e, c.e)
		}
		if w, e := world.Load(s); e != c.e || (w == nil) != (e != api.OK) {
			t.Errorf("%s: Load: error %d, not %d", name, e, c.e)
		}
		s.Actors = make([]world.Actor, 65)
		want := c.e
		if want == api.OK {
			want = world.ErrBroken
		}
		if e := world.Check(s); e != want {
			t.Errorf("%s: Check of a state that is not right: error %d, not %d", name, e, want)
		}
	}
}

// TestNew is P17.1 for New: the beginning, and its limits.
func TestNew(t *testing.T) {
	p := program("")
	w := begun(t, p, "a", "b")
	settled(t, w)
	want := world.State{
		Program: p,
		Actors: []world.Actor{
			{Type: "Out"},
			{Type: "main.Main", Fields: make([]api.Value, 1), Mail: []api.Message{{From: -1, To: 1, Name: "create", Args: []api.Value{object(3)}}}},
		},
		Cells: []api.Cell{
			{Type: "String", Owner: 1, Bytes: "a"},
			{Type: "String", Owner: 1, Bytes: "b"},
			{Type: "Array[String val]", Owner: 1, Fields: []api.Value{object(0), object(1)}},
			{Type: "Env", Owner: 1, Fields: []api.Value{actor(0), object(2), unit("AmbientAuth")}},
		},
	}
	if told(w.State()) != told(want) {
		t.Errorf("the beginning is %s", told(w.State()))
	}
	for _, p := range [][]api.Entity{without(program(""), "AmbientAuth"), append(without(program(""), "AmbientAuth"), notation.Program("class ref AmbientAuth")...)} {
		w := begun(t, p)
		settled(t, w)
		want := []api.Cell{{Type: "Array[String val]", Owner: 1}, {Type: "Env", Owner: 1, Fields: []api.Value{actor(0), object(0), {}}}}
		if s := w.State(); told(s.Cells) != told(want) {
			t.Errorf("the objects are %s", told(s.Cells))
		}
	}
	p = program("")
	p[8].Fields = []api.Field{{Name: "a"}, {Name: "b"}}
	if s := begun(t, p).State(); p[8].Name != "Out" || len(s.Actors[0].Fields) != 2 || s.Actors[0].Fields[0].Kind != api.ValNone {
		t.Errorf("the actors are %s", told(s.Actors))
	}
	long := strings.Repeat("x", 20000)
	for _, c := range []struct {
		args []string
		e    api.Errno
	}{
		{make([]string, 64), api.OK},
		{make([]string, 65), api.ErrSize},
		{[]string{"", long}, api.OK},
		{[]string{"", long + "x"}, api.ErrSize},
	} {
		w, e := world.New(program(""), c.args)
		if e != c.e || (w == nil) != (e != api.OK) {
			t.Errorf("New with %d args: error %d", len(c.args), e)
		}
		if _, e := world.New(nil, c.args); e != world.ErrMethod {
			t.Errorf("New of no program with %d args: error %d", len(c.args), e)
		}
	}
}

// TestMemory holds that worlds share no memory with what was handed in, nor with what they handed out.
func TestMemory(t *testing.T) {
	p, args := program(""), []string{"a"}
	w := begun(t, p, args...)
	want := told(w.State())
	spoil(reflect.ValueOf(p))
	args[0] = "z"
	if told(w.State()) != want {
		t.Error("New keeps the program")
	}
	spoil(reflect.ValueOf(w.State()))
	if told(w.State()) != want {
		t.Error("State hands out the program")
	}
	s := varied(t)
	w, _ = world.Load(s)
	want = told(s)
	spoil(reflect.ValueOf(s))
	if told(w.State()) != want {
		t.Error("Load keeps the state")
	}
	x, _ := w.Entity("main.C")
	m, _ := w.Method("main.C", "get")
	v, _ := w.Get(actor(2), "y")
	element, _, _ := w.Call(1, object(6), "apply", []api.Value{usize(1)})
	spoil(reflect.ValueOf([]any{x, m, v, element, w.Paths(), w.Ready()}))
	if told(w.State()) != want {
		t.Error("what methods return is kept")
	}
	l := []api.Value{tuple(u8(1), u8(2)), tuple(u8(3), u8(4))}
	w.Array(1, "Array[Any]", l)
	w.Set(actor(2), "x", l[0])
	w.Send(api.Message{From: 1, To: 2, Args: l})
	w.Call(1, object(6), "push", l[:1])
	w.Call(1, object(6), "update", []api.Value{usize(0), l[1]})
	want = told(w.State())
	spoil(reflect.ValueOf(l))
	if told(w.State()) != want {
		t.Error("what methods take is kept")
	}
}

// spoil changes all numbers and texts behind a value.
func spoil(v reflect.Value) {
	switch v.Kind() {
	case reflect.Slice:
		for i := range v.Len() {
			spoil(v.Index(i))
		}
	case reflect.Struct:
		for i := range v.NumField() {
			spoil(v.Field(i))
		}
	case reflect.Interface:
		spoil(v.Elem())
	}
	if !v.CanSet() {
		return
	}
	switch v.Kind() {
	case reflect.Int:
		v.SetInt(77)
	case reflect.Uint64:
		v.SetUint(77)
	case reflect.String:
		v.SetString("spoiled")
	}
}

// TestNil is P17.1 for a nil world, and for the codes of this layer.
func TestNil(t *testing.T) {
	if world.ErrBroken != 190 || world.ErrMethod != 191 || world.ErrUnset != 192 {
		t.Error("the codes are others")
	}
	var w *world.World
	if told(w.State()) != told(world.State{}) || w.Ready() != nil || w.Type(u8(1)) != "" || w.Is(u8(1), notation.Type("U8 val")) || w.Dump() != "" || w.Paths() != nil {
		t.Error("a nil world has something")
	}
	if n, ok := w.Choose(3); n != 0 || ok {
		t.Error("a nil world chooses")
	}
	if a, b, ok := w.Race(); ok || a != (world.Path{}) || b != (world.Path{}) {
		t.Error("a nil world has a race")
	}
	if e := w.Send(api.Message{}); e != api.ErrArg {
		t.Errorf("Send: error %d", e)
	}
	if e := w.Drop(0); e != api.ErrArg {
		t.Errorf("Drop: error %d", e)
	}
	if e := w.Remove(0); e != api.ErrArg {
		t.Errorf("Remove: error %d", e)
	}
	if m, e := w.Take(0); e != api.ErrArg || told(m) != told(api.Message{}) {
		t.Errorf("Take: error %d", e)
	}
	if x, e := w.Entity("Out"); e != api.ErrArg || told(x) != told(api.Entity{}) {
		t.Errorf("Entity: error %d", e)
	}
	if m, e := w.Method("Out", "print"); e != api.ErrArg || told(m) != told(api.Method{}) {
		t.Errorf("Method: error %d", e)
	}
	if s, e := w.Show(u8(1)); e != api.ErrArg || s != "" {
		t.Errorf("Show: error %d", e)
	}
	if v, raised, e := w.Call(0, u8(1), "string", nil); e != api.ErrArg || raised || v.Kind != 0 {
		t.Errorf("Call: error %d", e)
	}
	for name, f := range map[string]func() (api.Value, api.Errno){
		"Spawn": func() (api.Value, api.Errno) { return w.Spawn("Out") },
		"Make":  func() (api.Value, api.Errno) { return w.Make(0, "Env") },
		"Text":  func() (api.Value, api.Errno) { return w.Text(0, "") },
		"Array": func() (api.Value, api.Errno) { return w.Array(0, "Array[x]", nil) },
		"Get":   func() (api.Value, api.Errno) { return w.Get(u8(1), "a") },
		"Set":   func() (api.Value, api.Errno) { return w.Set(u8(1), "a", u8(1)) },
	} {
		if v, e := f(); e != api.ErrArg || told(v) != told(api.Value{}) {
			t.Errorf("%s: error %d", name, e)
		}
	}
}

// TestEntities is P17.1 for Entity and Method.
func TestEntities(t *testing.T) {
	more := `
	class ref main.E is main.Far ref; (main.S ref | main.T ref); main.U ref; main.T ref
	fun box own(): None val
	trait ref main.U is main.V ref
	trait ref main.V is main.U ref; main.S ref
	fun box get(): None val => lit.9{U32 val}
	fun box get(): None val
	`
	p := program(more)
	w := begun(t, p)
	for _, x := range p {
		if got, e := w.Entity(x.Name); e != api.OK || told(got) != told(x) {
			t.Errorf("Entity of %s is %s, error %d", x.Name, told(got), e)
		}
	}
	for _, name := range []string{"", "main", "main.X"} {
		if got, e := w.Entity(name); e != world.ErrMethod || told(got) != told(api.Entity{}) {
			t.Errorf("Entity of %s: error %d", name, e)
		}
	}
	for _, c := range [][3]string{
		{"main.C", "get", "1"}, {"main.C", "put", "2"}, {"main.C", "far", "3"},
		{"main.T", "get", "-"}, {"main.T", "far", "3"},
		{"main.E", "get", "9"}, {"main.E", "put", "4"}, {"main.E", "far", "3"}, {"main.E", "own", "-"},
		{"main.V", "put", "4"}, {"main.U", "get", "9"},
		{"main.C", "other", ""}, {"main.E", "other", ""}, {"main.X", "get", ""}, {"", "get", ""}, {"main.D", "get", ""},
	} {
		m, e := w.Method(c[0], c[1])
		switch {
		case c[2] == "":
			if e != world.ErrMethod || told(m) != told(api.Method{}) {
				t.Errorf("Method %s of %s: error %d", c[1], c[0], e)
			}
		case e != api.OK || m.Name != c[1] || m.Body.Text != strings.Trim(c[2], "-"):
			t.Errorf("Method %s of %s has the body %q, error %d", c[1], c[0], m.Body.Text, e)
		}
	}
}

// TestEntityOnce is P17.1 for Method: an entity is looked at once, and nothing but names is.
func TestEntityOnce(t *testing.T) {
	var more strings.Builder
	for i := range 60 { // without this it would be looked at 2 to the power of 60 times
		next := "main.N" + strings.Repeat("i", i+1)
		more.WriteString("trait ref main.N" + strings.Repeat("i", i) + " is " + next + " ref; " + next + " val\n")
	}
	w := begun(t, program(more.String()))
	if _, e := w.Method("main.N", "get"); e != world.ErrMethod {
		t.Errorf("error %d", e)
	}
}
