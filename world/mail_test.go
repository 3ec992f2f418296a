package world_test

import (
	"slices"
	"strings"
	"testing"

	"hackamore/api"
	"hackamore/world"
)

// loaded returns the world with a state that is right.
func loaded(t *testing.T, s world.State) *world.World {
	t.Helper()
	w, e := world.Load(s)
	if e != api.OK {
		t.Fatalf("Load: error %d", e)
	}
	return w
}

// TestReady is P17.1 for Ready and Choose.
func TestReady(t *testing.T) {
	s := begun(t, program("")).State()
	s.Actors[1].Mail = nil
	for range 8 {
		s.Actors = append(s.Actors, world.Actor{Type: "Out"})
	}
	w := loaded(t, s)
	if l := w.Ready(); len(l) > 0 {
		t.Errorf("ready are %v", l)
	}
	if n, ok := w.Choose(1); ok || n != 0 {
		t.Errorf("%d is chosen", n)
	}
	for _, n := range []int{9, 2, 5} {
		for range 2 {
			if e := w.Send(api.Message{From: -1, To: n}); e != api.OK {
				t.Fatalf("Send: error %d", e)
			}
		}
	}
	if l := w.Ready(); !slices.Equal(l, []int{2, 5, 9}) {
		t.Errorf("ready are %v", l)
	}
	for choice, want := range map[int]int{0: 2, 1: 5, 2: 9, 3: 2, 100: 5, -1: 9, -2: 5, -3: 2, -4: 9, -1 << 63: 5, 1<<63 - 1: 5} {
		if n, ok := w.Choose(choice); !ok || n != want {
			t.Errorf("%d chooses %d, not %d", choice, n, want)
		}
	}
}

// TestSend is P17.1 for Send: its errors, each ahead of those behind it, and what it does.
func TestSend(t *testing.T) {
	deep, long := nested(100, tuple(u8(1), u8(2))), object(5)
	right := api.Message{From: 1, To: 2, Name: "go", Args: []api.Value{object(4), u32(1)}}
	fullMail := func(s *world.State) { s.Actors[2].Mail = messages(1998) }
	fullTrace := func(s *world.State) { s.Trace = make([]api.Send, 100000) }
	both := func(s *world.State) { fullMail(s); fullTrace(s) }
	nothing := func(s *world.State) {}
	for name, c := range map[string]struct {
		change  func(s *world.State)
		message func(m *api.Message)
		e       api.Errno
	}{
		"right":                      {nothing, func(m *api.Message) {}, api.OK},
		"to nobody":                  {both, func(m *api.Message) { m.To, m.Name = 4, strings.Repeat("x", 61) }, api.ErrNone},
		"to -1":                      {nothing, func(m *api.Message) { m.To = -1 }, api.ErrNone},
		"to one that was removed":    {nothing, func(m *api.Message) { m.To = 3 }, api.ErrNone},
		"from nobody":                {both, func(m *api.Message) { m.From, m.Name = 4, strings.Repeat("x", 61) }, api.ErrNone},
		"from -2":                    {nothing, func(m *api.Message) { m.From = -2 }, api.ErrNone},
		"from -1":                    {nothing, func(m *api.Message) { m.From = -1 }, api.OK},
		"from one that was removed":  {nothing, func(m *api.Message) { m.From = 3 }, api.OK},
		"a name of 60 bytes":         {nothing, func(m *api.Message) { m.Name = strings.Repeat("x", 60) }, api.OK},
		"a name of 61 bytes":         {both, func(m *api.Message) { m.Name, m.Args[0] = strings.Repeat("x", 61), object(99) }, api.ErrSize},
		"a wrong argument":           {both, func(m *api.Message) { m.Args[1] = object(99) }, world.ErrBroken},
		"a wrong one behind another": {both, func(m *api.Message) { m.Args = []api.Value{long, object(99)} }, world.ErrBroken},
		"none":                       {both, func(m *api.Message) { m.Args[1] = api.Value{} }, world.ErrBroken},
		"no argument":                {nothing, func(m *api.Message) { m.Args = nil }, api.OK},
		"a long text":                {both, func(m *api.Message) { m.Args[1] = long }, api.ErrLarge},
		"a tuple that is too deep":   {both, func(m *api.Message) { m.Args[1] = deep }, world.ErrBroken},
		"an object that is too deep": {func(s *world.State) { both(s); s.Cells[4].Fields[0] = deepest(); s.Cells[4].Fields[1] = long },
			func(m *api.Message) {}, api.ErrDepth},
		"the first error of Show": {func(s *world.State) { both(s); s.Cells[4].Fields[0] = deepest() },
			func(m *api.Message) { m.Args = []api.Value{u8(1), long, object(4)} }, api.ErrLarge},
		"1999 messages": {func(s *world.State) { s.Actors[2].Mail = messages(1997) }, func(m *api.Message) {}, api.OK},
		"2000 messages": {fullMail, func(m *api.Message) {}, api.ErrFull},
		"99999 sends":   {func(s *world.State) { s.Trace = make([]api.Send, 99999) }, func(m *api.Message) {}, api.OK},
		"100000 sends":  {fullTrace, func(m *api.Message) {}, api.ErrFull},
	} {
		s := varied(t)
		s.Cells[5] = api.Cell{Type: "String", Bytes: strings.Repeat("x", 20000)}
		c.change(&s)
		w, m := loaded(t, s), right
		m.Args = slices.Clone(m.Args)
		c.message(&m)
		if e := w.Send(m); e != c.e {
			t.Errorf("%s: error %d, not %d", name, e, c.e)
		}
		if c.e == api.OK {
			sent := api.Send{From: m.From, To: m.To, Name: m.Name}
			for _, v := range m.Args {
				text, _ := w.Show(v)
				sent.Args = append(sent.Args, text)
			}
			s.Actors[2].Mail = append(s.Actors[2].Mail, m)
			s.Trace = append(s.Trace, sent)
		}
		if told(w.State()) != told(s) {
			t.Errorf("%s: the state is another one", name)
		}
	}
}

// deepest returns a right value of which an element stands in 101 objects and tuples, if an object has it.
func deepest() api.Value { return nested(100, u8(1)) }

// TestTake is P17.1 and P17.3 for Take: the oldest message first, and its errors.
func TestTake(t *testing.T) {
	s := varied(t)
	w := loaded(t, s)
	for _, n := range []int{-1, 3, 4, 1 << 62} {
		if m, e := w.Take(n); e != api.ErrNone || told(m) != told(api.Message{}) {
			t.Errorf("Take(%d): error %d", n, e)
		}
	}
	for len(s.Actors[2].Mail) > 0 {
		m, e := w.Take(2)
		if e != api.OK || told(m) != told(s.Actors[2].Mail[0]) {
			t.Errorf("%s is taken, error %d", told(m), e)
		}
		s.Actors[2].Mail = s.Actors[2].Mail[1:]
		if told(w.State()) != told(s) {
			t.Fatal("the state is another one")
		}
	}
	if m, e := w.Take(2); e != api.ErrNone || told(m) != told(api.Message{}) {
		t.Errorf("Take without mail: error %d", e)
	}
}

// TestSpawn is P17.1 for Spawn.
func TestSpawn(t *testing.T) {
	w := begun(t, append(program("actor tag main.B\nvar a: U32 val\nvar b: U32 val"), api.Entity{Kind: api.Actor}))
	for _, name := range []string{"", "main.C", "None", "main.S", "main.X"} {
		if v, e := w.Spawn(name); e != world.ErrMethod || told(v) != told(api.Value{}) {
			t.Errorf("Spawn of %q: error %d", name, e)
		}
	}
	for i := uint64(2); i < 64; i++ {
		if v, e := w.Spawn("main.B"); e != api.OK || told(v) != told(actor(i)) {
			t.Fatalf("Spawn is %s, error %d", told(v), e)
		}
	}
	if s := w.State(); told(s.Actors[63]) != told(world.Actor{Type: "main.B", Fields: make([]api.Value, 2)}) {
		t.Errorf("the actor is %s", told(s.Actors[63]))
	}
	settled(t, w)
	w.Remove(7)
	if v, e := w.Spawn("main.B"); e != api.ErrFull || told(v) != told(api.Value{}) {
		t.Errorf("Spawn of too many: error %d", e)
	}
	if _, e := w.Spawn("main.C"); e != world.ErrMethod {
		t.Errorf("Spawn of too many of no actor: error %d", e)
	}
}

// TestRemove is P17.1 for Remove and Drop.
func TestRemove(t *testing.T) {
	s := varied(t)
	w := loaded(t, s)
	for _, n := range []int{-1, 3, 4} {
		if e := w.Remove(n); e != api.ErrNone {
			t.Errorf("Remove(%d): error %d", n, e)
		}
	}
	for _, n := range []int{-1, 8, 9} {
		if e := w.Drop(n); e != api.ErrNone {
			t.Errorf("Drop(%d): error %d", n, e)
		}
	}
	for _, n := range []int{0, 2} { // one message, and two
		if e := w.Remove(n); e != api.ErrState {
			t.Errorf("Remove of one with mail: error %d", e)
		}
	}
	if told(w.State()) != told(s) {
		t.Error("an error changes the state")
	}
	if e := w.Drop(7); e != api.OK {
		t.Errorf("Drop: error %d", e)
	}
	w.Take(0)
	if e := w.Remove(0); e != api.OK {
		t.Errorf("Remove: error %d", e)
	}
	s.Cells[7], s.Actors[0] = api.Cell{}, world.Actor{}
	if told(w.State()) != told(s) {
		t.Error("the state is another one")
	}
	for name, e := range map[string]api.Errno{"Remove": w.Remove(0), "Drop": w.Drop(7)} {
		if e != api.ErrNone {
			t.Errorf("%s of what is not there any more: error %d", name, e)
		}
	}
	if _, e := w.Text(0, "x"); e != api.ErrNone {
		t.Errorf("Text of an actor that is not there any more: error %d", e)
	}
}

// TestFull is P17.1 and P17.3 for the limit of all mail, where messages are taken, too.
func TestFull(t *testing.T) {
	w := begun(t, program(""))
	for i := range 1999 {
		if e := w.Send(api.Message{From: -1, To: i % 2}); e != api.OK {
			t.Fatalf("the message %d: error %d", i, e)
		}
	}
	for range 3 {
		if e := w.Send(api.Message{From: -1, To: 1}); e != api.ErrFull {
			t.Fatalf("one message too many: error %d", e)
		}
		w.Take(0)
		if e := w.Send(api.Message{From: -1, To: 1}); e != api.OK {
			t.Fatalf("behind one that was taken: error %d", e)
		}
	}
	settled(t, w)
}
