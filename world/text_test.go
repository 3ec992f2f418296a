package world_test

import (
	"strings"
	"testing"

	"hackamore/api"
	"hackamore/notation"
	"hackamore/world"
)

// TestShow is P17.1 for Show.
func TestShow(t *testing.T) {
	s := varied(t)
	s.Cells[7].Bytes = "a\\b\"c\nd\te"
	s.Cells[4].Fields[1] = tuple(object(7), object(7))
	w := loaded(t, s)
	c := `main.C#0{a=#0, b=("a\\b\"c\nd` + "\t" + `e"#1, #1), c=U32 7}`
	for _, c := range []struct {
		v    api.Value
		want string
	}{
		{api.Value{}, "none"}, {truth(0), "false"}, {truth(1), "true"}, {u8(255), "U8 255"}, {usize(1<<64 - 1), "USize 18446744073709551615"},
		{api.Value{Kind: api.ValNumber, Lo: 0xff}, "I8 -1"}, {api.Value{Kind: api.ValNumber + 12, Lo: 0x3dcccccd}, "F32 0.1"},
		{none, "None"}, {unit("U32"), "U32"}, {actor(0), "@0"}, {actor(2), "@2"},
		{tuple(u8(1), tuple(none, actor(1)), truth(1)), "(U8 1, (None, @1), true)"},
		{object(5), "main.D#0{}"}, {object(7), `"a\\b\"c\nd` + "\t" + `e"#0`},
		{object(4), c},
		{object(6), "Array[Any]#0{" + strings.NewReplacer("#0", "#1", "#1", "#2").Replace(c) + ", (main.D#3{}, true), None}"},
		{tuple(object(5), object(5), object(4)), "(main.D#0{}, #0, " + strings.NewReplacer("#0", "#1", "#1", "#2").Replace(c) + ")"},
	} {
		if got, e := w.Show(c.v); e != api.OK || got != c.want {
			t.Errorf("Show of %s is %s, error %d, not %s", told(c.v), got, e, c.want)
		}
	}
	for _, v := range values() {
		got, e := w.Show(v.v)
		if !v.right && (e != world.ErrBroken || got != "") || v.right && e != api.OK {
			t.Errorf("Show of %s: %q, error %d", v.name, got, e)
		}
	}
	w = begun(t, program(""), "a", "b")
	want := `Env#0{out=@0, args=Array[String val]#1{"a"#2, "b"#3}, root=AmbientAuth}`
	if got, e := w.Show(object(3)); e != api.OK || got != want {
		t.Errorf("Show of the Env is %s, error %d", got, e)
	}
}

// chain returns a state with objects 0 to n, each of which has the next one, and the last one a value.
func chain(t *testing.T, n int, last api.Value) world.State {
	t.Helper()
	s := begun(t, program("")).State()
	s.Actors[1].Mail, s.Cells = nil, nil
	for i := range n {
		s.Cells = append(s.Cells, api.Cell{Type: "Array[x]", Fields: []api.Value{object(uint64(i + 1))}})
	}
	s.Cells = append(s.Cells, api.Cell{Type: "Array[x]", Fields: []api.Value{last}})
	return s
}

// TestShowErrors is P17.1 for the errors of Show, with the limits on both sides, ErrDepth ahead of ErrLarge.
func TestShowErrors(t *testing.T) {
	long := api.Cell{Type: "String", Bytes: strings.Repeat("x", 19996)}
	longer := api.Cell{Type: "String", Bytes: strings.Repeat("x", 19997)}
	with := func(s world.State, c ...api.Cell) world.State {
		s.Cells = append(s.Cells, c...)
		return s
	}
	for name, c := range map[string]struct {
		s world.State
		v api.Value
		e api.Errno
	}{
		"a value in 100 objects":           {chain(t, 99, u8(1)), object(0), api.OK},
		"a value in 101 objects":           {chain(t, 100, u8(1)), object(0), api.ErrDepth},
		"none in 101 objects":              {chain(t, 99, tuple(u8(1), u8(1))), object(0), api.ErrDepth},
		"a value in 100 of both":           {chain(t, 98, tuple(u8(1), u8(1))), object(0), api.OK},
		"an empty object in 100":           {with(chain(t, 99, object(100)), api.Cell{Type: "main.D"}), object(0), api.OK},
		"one met again in 101":             {chain(t, 100, object(0)), object(0), api.ErrDepth},
		"one met again in 100":             {chain(t, 99, object(0)), object(0), api.OK},
		"one that is deep is met before":   {chain(t, 100, u8(1)), tuple(object(100), object(99), object(50), object(1)), api.OK},
		"one that is deep is met behind":   {chain(t, 100, u8(1)), tuple(object(1), object(100)), api.ErrDepth},
		"100 tuples":                       {chain(t, 0, u8(1)), nested(100, u8(1)), api.OK},
		"20000 bytes":                      {with(chain(t, 0, u8(1)), long), object(1), api.OK},
		"20000 bytes with a bracket":       {with(chain(t, 0, object(1)), api.Cell{Type: "String", Bytes: strings.Repeat("x", 19984)}), object(0), api.OK},
		"20001 bytes with a bracket":       {with(chain(t, 0, object(1)), api.Cell{Type: "String", Bytes: strings.Repeat("x", 19985)}), object(0), api.ErrLarge},
		"20001 bytes":                      {with(chain(t, 0, u8(1)), longer), object(1), api.ErrLarge},
		"20001 bytes with another number":  {with(chain(t, 0, u8(1)), long), tuple(object(0), object(1)), api.ErrLarge},
		"a long text ahead of a deep one":  {with(chain(t, 100, u8(1)), longer), tuple(object(101), object(0)), api.ErrDepth},
		"a deep one ahead of a long text":  {with(chain(t, 100, u8(1)), longer), tuple(object(0), object(101)), api.ErrDepth},
		"a deep one behind many long ones": {with(chain(t, 100, object(101)), longer), tuple(nested(99, object(101)), object(0)), api.ErrDepth},
	} {
		w := loaded(t, c.s)
		got, e := w.Show(c.v)
		if e != c.e || (got == "") != (e != api.OK) {
			t.Errorf("%s: error %d, not %d", name, e, c.e)
		}
		if name == "20000 bytes" && got != `"`+long.Bytes+`"#0` {
			t.Errorf("%s: %s", name, got)
		}
	}
}

// TestDump is P17.1 for Dump.
func TestDump(t *testing.T) {
	s := varied(t)
	s.Output = append(s.Output, "a\nb\"", strings.Repeat("x", 20001))
	want := `actor 0 Out{}
 print("x"#0) from 2
actor 1 main.Main{last=none}
 create(Env#1{out=@0, args=Array[String val]#2{"a"#3, "b"#4}, root=AmbientAuth}) from -1
actor 2 main.A{x=none, y=(Array[Any]#5{main.C#6{a=#6, b=none, c=U32 7}, (main.D#7{}, true), None}, (@2, U8 255))}
 go(#6, U32 1) from 1
 () from -1
out "x"
out "a\nb\""
out "` + strings.Repeat("x", 20001) + "\"\n"
	if got := loaded(t, s).Dump(); got != want {
		t.Errorf("Dump is\n%s, not\n%s", got, want)
	}
	s = varied(t)
	s.Actors[0], s.Output = world.Actor{}, nil
	s.Actors[2].Fields, s.Actors[2].Mail, s.Cells = make([]api.Value, 2), nil, nil
	s.Actors[1].Mail = nil
	if got := loaded(t, s).Dump(); got != "actor 1 main.Main{last=none}\nactor 2 main.A{x=none, y=none}\n" {
		t.Errorf("Dump without the actor 0 is\n%s", got)
	}
	if got := loaded(t, world.State{Program: program("")}).Dump(); got != "\n" {
		t.Errorf("Dump of a world with nothing is %q", got)
	}
	begin := "actor 0 Out{}\nactor 1 main.Main{last=none}\n create(Env#0{out=@0, args=Array[String val]#1{}, root=AmbientAuth}) from -1\n"
	if got := begun(t, program("")).Dump(); got != begin {
		t.Errorf("Dump is\n%s", got)
	}
}

// TestDumpLimits is P17.1 for what Dump writes where a value's text would be too deep or too long.
func TestDumpLimits(t *testing.T) {
	s := chain(t, 100, u8(1)) // 0 to 100
	s.Cells = append(s.Cells, api.Cell{Type: "String", Bytes: strings.Repeat("x", 19998)}, api.Cell{Type: "String", Bytes: "y"}, api.Cell{Type: "String", Bytes: strings.Repeat("x", 19990)})
	s.Actors = append(s.Actors, world.Actor{Type: "main.A", Fields: []api.Value{tuple(object(102), object(0)), object(99)}})
	s.Actors[2].Mail = []api.Message{{From: 1, To: 2, Name: "m", Args: []api.Value{tuple(object(102), object(101)), object(101), object(103), object(102), object(98)}}}
	w := loaded(t, s)
	want := "actor 0 Out{}\nactor 1 main.Main{last=none}\n" +
		"actor 2 main.A{x=?, y=Array[x]#0{Array[x]#1{U8 1}}}\n" +
		` m(?, ?, "` + strings.Repeat("x", 19990) + `"#2, "y"#3, Array[x]#4{#0}) from 1` + "\n"
	if got := w.Dump(); got != want {
		t.Errorf("Dump is\n%s, not\n%s", got, want)
	}
}

// TestNamesakes is P17.1 for Show: Strings and Arrays are written as such, whatever classes of their names have.
func TestNamesakes(t *testing.T) {
	p := program("")
	array := notation.Program("class ref main.X\nvar a: U8 val")[0]
	array.Name = "Array[U8 val]"
	w := begun(t, append(p, array))
	v, _ := w.Array(1, "Array[U8 val]", []api.Value{u8(1)})
	if got, _ := w.Show(v); got != "Array[U8 val]#0{U8 1}" {
		t.Errorf("Show is %s", got)
	}
}
