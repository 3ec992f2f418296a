package world_test

import (
	"strings"
	"testing"

	"hackamore/api"
	"hackamore/world"
)

// messages returns so many messages to the actor 2.
func messages(n int) []api.Message {
	l := make([]api.Message, n)
	for i := range l {
		l[i] = api.Message{From: -1, To: 2}
	}
	return l
}

// TestRight is P17.1 for Check and Load: what of a state is right, with the limits on both sides.
func TestRight(t *testing.T) {
	if s := varied(t); world.Check(s) != api.OK {
		t.Fatal("the state itself is not right")
	}
	type change = func(s *world.State)
	field := func(v api.Value) change { return func(s *world.State) { s.Actors[2].Fields[0] = v } }
	element := func(v api.Value) change { return func(s *world.State) { s.Cells[6].Fields[0] = v } }
	argument := func(v api.Value) change { return func(s *world.State) { s.Actors[2].Mail[0].Args[0] = v } }
	cell := func(c api.Cell) change { return func(s *world.State) { s.Cells[5] = c } }
	names := []string{"a field", "an element", "an argument"}
	for i, put := range []func(v api.Value) change{field, element, argument} {
		for _, c := range values() {
			right := c.right && (i == 0 || c.v.Kind != api.ValNone)
			checkChange(t, names[i]+" "+c.name, put(c.v), right)
		}
	}
	object := func(c api.Cell) change { return cell(c) }
	for _, c := range []struct {
		name  string
		do    change
		right bool
	}{
		{"an actor of no entity", func(s *world.State) { s.Actors[2].Type = "main.X" }, false},
		{"an actor of a class", func(s *world.State) { s.Actors[3] = world.Actor{Type: "main.D"} }, false},
		{"an actor with too few fields", func(s *world.State) { s.Actors[2].Fields = s.Actors[2].Fields[:1] }, false},
		{"an actor with too many fields", func(s *world.State) { s.Actors[2].Fields = make([]api.Value, 3) }, false},
		{"an actor that is no longer there with a field", func(s *world.State) { s.Actors[3].Fields = make([]api.Value, 1) }, false},
		{"an actor that is no longer there with mail", func(s *world.State) { s.Actors[3].Mail = []api.Message{{From: -1, To: 3}} }, false},
		{"64 actors", func(s *world.State) { s.Actors = append(s.Actors, make([]world.Actor, 60)...) }, true},
		{"65 actors", func(s *world.State) { s.Actors = append(s.Actors, make([]world.Actor, 61)...) }, false},
		{"20000 objects", func(s *world.State) { s.Cells = append(s.Cells, make([]api.Cell, 20000-len(s.Cells))...) }, true},
		{"20001 objects", func(s *world.State) { s.Cells = append(s.Cells, make([]api.Cell, 20001-len(s.Cells))...) }, false},
		{"a String", object(api.Cell{Type: "String", Bytes: strings.Repeat("x", 20000)}), true},
		{"a long String", object(api.Cell{Type: "String", Bytes: strings.Repeat("x", 20001)}), false},
		{"a String with a field", object(api.Cell{Type: "String", Fields: []api.Value{u8(1)}}), false},
		{"an Array", object(api.Cell{Type: "Array[]", Fields: many(10000)}), true},
		{"a long Array", object(api.Cell{Type: "Array[]", Fields: many(10001)}), false},
		{"an Array with bytes", object(api.Cell{Type: "Array[x]", Bytes: "x"}), false},
		{"no Array", object(api.Cell{Type: "Array[x"}), false},
		{"no Array either", object(api.Cell{Type: "array[x]"}), false},
		{"an object", object(api.Cell{Type: "main.C", Owner: 2, Fields: make([]api.Value, 3)}), true},
		{"an object of an actor that is no longer there", object(api.Cell{Type: "main.D", Owner: 3}), true},
		{"an object of no actor", object(api.Cell{Type: "main.D", Owner: 4}), false},
		{"an object of no actor either", object(api.Cell{Type: "main.D", Owner: -1}), false},
		{"an object with bytes", object(api.Cell{Type: "main.D", Bytes: "x"}), false},
		{"an object with too few fields", object(api.Cell{Type: "main.C", Fields: make([]api.Value, 2)}), false},
		{"an object with too many fields", object(api.Cell{Type: "main.D", Fields: make([]api.Value, 1)}), false},
		{"an object of an actor", object(api.Cell{Type: "Out"}), false},
		{"an object of a primitive", object(api.Cell{Type: "None"}), false},
		{"an object of a trait", object(api.Cell{Type: "main.S"}), false},
		{"an object of no entity", object(api.Cell{Type: "main.X"}), false},
		{"an object that is no longer there with an owner", func(s *world.State) { s.Cells[8].Owner = 1 }, false},
		{"an object that is no longer there with bytes", func(s *world.State) { s.Cells[8].Bytes = "x" }, false},
		{"an object that is no longer there with a field", func(s *world.State) { s.Cells[8].Fields = make([]api.Value, 1) }, false},
		{"an object that is missing", func(s *world.State) { s.Cells[5] = api.Cell{} }, false},
		{"a message to another one", func(s *world.State) { s.Actors[2].Mail[0].To = 1 }, false},
		{"a message to nobody", func(s *world.State) { s.Actors[2].Mail[0].To = -1 }, false},
		{"a message from outside", func(s *world.State) { s.Actors[2].Mail[0].From = -1 }, true},
		{"a message from one that is no longer there", func(s *world.State) { s.Actors[2].Mail[0].From = 3 }, true},
		{"a message from nobody", func(s *world.State) { s.Actors[2].Mail[0].From = 4 }, false},
		{"a message from nobody either", func(s *world.State) { s.Actors[2].Mail[0].From = -2 }, false},
		{"a message with a name", func(s *world.State) { s.Actors[2].Mail[0].Name = strings.Repeat("x", 60) }, true},
		{"a message with a long name", func(s *world.State) { s.Actors[2].Mail[0].Name = strings.Repeat("x", 61) }, false},
		{"2000 messages", func(s *world.State) { s.Actors[2].Mail = messages(1998) }, true},
		{"2001 messages", func(s *world.State) { s.Actors[2].Mail = messages(1999) }, false},
		{"100000 sends", func(s *world.State) { s.Trace = make([]api.Send, 100000) }, true},
		{"100001 sends", func(s *world.State) { s.Trace = make([]api.Send, 100001) }, false},
		{"a send of anything", func(s *world.State) {
			s.Trace = []api.Send{{From: -9, To: 77, Name: strings.Repeat("x", 99), Args: []string{"y"}}}
		}, true},
		{"100000 lines", func(s *world.State) { s.Output = make([]string, 100000) }, true},
		{"100001 lines", func(s *world.State) { s.Output = make([]string, 100001) }, false},
		{"a long line", func(s *world.State) { s.Output = []string{strings.Repeat("x", 50000)} }, true},
	} {
		checkChange(t, c.name, c.do, c.right)
	}
}

// checkChange checks that a state is right behind a change, or is not.
func checkChange(t *testing.T, name string, do func(s *world.State), right bool) {
	t.Helper()
	s := varied(t)
	do(&s)
	want := world.ErrBroken
	if right {
		want = api.OK
	}
	if e := world.Check(s); e != want {
		t.Errorf("%s: Check: error %d", name, e)
	}
	w, e := world.Load(s)
	if e != want || (w == nil) != (e != api.OK) {
		t.Errorf("%s: Load: error %d", name, e)
	}
	if right && told(w.State()) != told(s) {
		t.Errorf("%s: the state of what was loaded is another one", name)
	}
}

func many(n int) []api.Value {
	l := make([]api.Value, n)
	for i := range l {
		l[i] = u8(1)
	}
	return l
}

// valued is a value, and whether it is right in the varied state.
type valued struct {
	name  string
	v     api.Value
	right bool
}

func values() []valued {
	great := u8(1)
	for range 60 {
		great = tuple(great, great)
	}
	return []valued{
		{"none", api.Value{}, true},
		{"none with Lo", api.Value{Lo: 1}, false},
		{"none with Hi", api.Value{Hi: 1}, false},
		{"none with a name", api.Value{Name: "x"}, false},
		{"none with kids", api.Value{Kids: []api.Value{{}}}, false},
		{"false", truth(0), true},
		{"true", truth(1), true},
		{"a Bool of 2", truth(2), false},
		{"a U8", u8(255), true},
		{"a U8 of 256", api.Value{Kind: u8(1).Kind, Lo: 256}, false},
		{"a U8 with a name", api.Value{Kind: u8(1).Kind, Name: "x"}, false},
		{"a not-a-number", api.Value{Kind: api.ValNumber + 12, Lo: 0x7fc00000}, true},
		{"another not-a-number", api.Value{Kind: api.ValNumber + 12, Lo: 0x7fc00001}, false},
		{"an object", object(4), true},
		{"an object that was dropped", object(8), false},
		{"no object", object(9), false},
		{"no object at all", object(1 << 63), false},
		{"an object with Hi", api.Value{Kind: api.ValObject, Hi: 1}, false},
		{"an object with a name", api.Value{Kind: api.ValObject, Name: "main.C"}, false},
		{"an object with kids", api.Value{Kind: api.ValObject, Kids: []api.Value{{}}}, false},
		{"an actor", actor(2), true},
		{"an actor that was removed", actor(3), false},
		{"no actor", actor(4), false},
		{"no actor at all", actor(1<<64 - 1), false},
		{"an actor with Hi", api.Value{Kind: api.ValActor, Hi: 1}, false},
		{"an actor with a name", api.Value{Kind: api.ValActor, Name: "Out"}, false},
		{"an actor with kids", api.Value{Kind: api.ValActor, Kids: []api.Value{{}}}, false},
		{"a unit", none, true},
		{"a unit of a number type", unit("U32"), true},
		{"a unit of a class", unit("main.C"), false},
		{"a unit of nothing", unit("main.X"), false},
		{"a unit without a name", unit(""), false},
		{"a unit with Lo", api.Value{Kind: api.ValUnit, Name: "None", Lo: 1}, false},
		{"a unit with Hi", api.Value{Kind: api.ValUnit, Name: "None", Hi: 1}, false},
		{"a unit with kids", api.Value{Kind: api.ValUnit, Name: "None", Kids: []api.Value{{}}}, false},
		{"a pair", tuple(object(4), actor(2)), true},
		{"a triple", tuple(none, tuple(u8(1), truth(0)), u32(1)), true},
		{"a tuple of one", tuple(u8(1)), false},
		{"a tuple of none", tuple(), false},
		{"a tuple with none", tuple(u8(1), api.Value{}), false},
		{"a tuple with a wrong value", tuple(u8(1), tuple(u8(1), object(99))), false},
		{"a tuple with Lo", api.Value{Kind: api.ValTuple, Lo: 1, Kids: many(2)}, false},
		{"a tuple with Hi", api.Value{Kind: api.ValTuple, Hi: 1, Kids: many(2)}, false},
		{"a tuple with a name", api.Value{Kind: api.ValTuple, Name: "x", Kids: many(2)}, false},
		{"a tuple of 100 levels", nested(100, u8(1)), true},
		{"a tuple of 101 levels", nested(101, u8(1)), false},
		{"a value of another kind", api.Value{Kind: 6}, false},
		{"a value below all kinds", api.Value{Kind: -1}, false},
		{"a value above all kinds", api.Value{Kind: api.ValNumber + 14}, false},
		{"more than anybody can hold", great, false},
	}
}
