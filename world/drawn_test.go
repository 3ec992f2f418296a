package world_test

import (
	"slices"
	"strconv"
	"testing"

	"hackamore/api"
	"hackamore/draw"
	"hackamore/world"
)

// player does drawn acts in a world.
type player struct {
	*draw.Maker
	t    *testing.T
	w    *world.World
	sent map[[2]int][]string // what is under way from one actor to another one, the oldest first
	next int
}

// value returns a drawn value, most often a right one.
func (d *player) value(depth int) api.Value {
	s := d.w.State()
	switch d.Below(12) {
	case 0:
		return u8(uint64(d.Below(256)))
	case 1:
		return usize(uint64(d.Below(4)))
	case 2:
		return truth(uint64(d.Below(2)))
	case 3:
		return draw.One(d.Maker, none, unit("AmbientAuth"), unit("main.C"))
	case 4:
		return actor(uint64(d.Below(len(s.Actors) + 1)))
	case 5:
		if depth > 0 {
			return tuple(d.value(depth-1), d.value(depth-1))
		}
	case 6:
		if d.Below(4) == 0 {
			return api.Value{}
		}
	}
	if d.Below(20) == 0 {
		return object(uint64(len(s.Cells)))
	}
	return object(uint64(d.Below(len(s.Cells))))
}

func (d *player) values(n int) []api.Value {
	var l []api.Value
	for range n {
		l = append(l, d.value(2))
	}
	return l
}

// act does one act, and returns the error that it had.
func (d *player) act() (api.Value, api.Errno) {
	n := d.Below(5) - 1
	switch d.Below(10) {
	case 0:
		return d.w.Spawn(draw.One(d.Maker, "main.A", "main.A", "main.C", "Out"))
	case 1:
		return d.w.Make(n, draw.One(d.Maker, "main.C", "main.C", "main.D", "main.A", "String"))
	case 2:
		return d.w.Text(n, draw.One(d.Maker, "", "a", "b\n"))
	case 3:
		return d.w.Array(n, draw.One(d.Maker, "Array[Any]", "Array[U8 val]", "main.C"), d.values(d.Below(3)))
	case 4:
		return d.w.Set(d.value(0), draw.One(d.Maker, "a", "b", "c", "x", "y", "last"), d.value(2))
	case 5, 6:
		return api.Value{}, d.send()
	case 7:
		return api.Value{}, d.take()
	case 8:
		return d.call(n)
	}
	return d.w.Get(d.value(0), draw.One(d.Maker, "a", "b", "c", "x", "y"))
}

// send sends a message with a name that no other one has.
func (d *player) send() api.Errno {
	actors := len(d.w.State().Actors)
	m := api.Message{From: d.Below(actors+2) - 1, To: d.Below(actors), Name: "m" + strconv.Itoa(d.next), Args: d.values(d.Below(3))}
	trace := d.w.State().Trace
	e := d.w.Send(m)
	got := d.w.State().Trace
	if !slices.EqualFunc(trace, got[:len(trace)], func(a, b api.Send) bool { return told(a) == told(b) }) || len(got) != len(trace)+1 && e == api.OK {
		d.t.Fatalf("the trace %s becomes %s", told(trace), told(got))
	}
	if e == api.OK {
		way := [2]int{m.From, m.To}
		d.sent[way] = append(d.sent[way], told(m))
		d.next++
	}
	return e
}

// take takes a message, which is the oldest one on its way.
func (d *player) take() api.Errno {
	n, ok := d.w.Choose(d.Below(100) - 50)
	m, e := d.w.Take(n)
	if !ok {
		return api.ErrNone
	}
	way := [2]int{m.From, m.To}
	if e != api.OK || len(d.sent[way]) == 0 || told(m) != d.sent[way][0] || m.To != n {
		d.t.Fatalf("%s is taken, error %d, not %v", told(m), e, d.sent[way])
	}
	d.sent[way] = d.sent[way][1:]
	return api.OK
}

// call is P17.5 for a drawn call of a method that the runtime gives.
func (d *player) call(n int) (api.Value, api.Errno) {
	before := d.w.State()
	name := draw.One(d.Maker, "string", "size", "apply", "add", "eq", "substring", "update", "push", "pop", "print", "op_not", "u32")
	v, raised, e := d.w.Call(n, d.value(1), name, d.values(d.Below(3)))
	after := d.w.State()
	if (e != api.OK || raised) && (told(v) != told(api.Value{}) || told(before) != told(after)) {
		d.t.Fatalf("%s: %s, %v, error %d", name, told(v), raised, e)
	}
	if _, broken := d.w.Show(v); broken == world.ErrBroken || e == api.OK && !raised && v.Kind == api.ValNone {
		d.t.Fatalf("%s returns %s", name, told(v))
	}
	for _, c := range after.Cells[len(before.Cells):] {
		if c.Owner != n {
			d.t.Fatalf("%s for %d makes an object of %d", name, n, c.Owner)
		}
	}
	return v, e
}

// TestDrawn is P17.2, P17.3 and P17.5 for drawn acts: all states are right, messages keep their order, errors change nothing.
func TestDrawn(t *testing.T) {
	errors, acts := 0, 0
	for seed := range uint64(60) {
		d := &player{draw.New(seed), t, begun(t, program(""), "a"), map[[2]int][]string{}, 0}
		d.sent[[2]int{-1, 1}] = []string{told(d.w.State().Actors[1].Mail[0])}
		for range 120 {
			before := told(d.w.State())
			v, e := d.act()
			acts++
			if e != api.OK {
				errors++
				if told(v) != told(api.Value{}) || told(d.w.State()) != before {
					t.Fatalf("seed %d: an act with the error %d returns %s, or changes the state", seed, e, told(v))
				}
			}
			settled(t, d.w)
		}
		for way, l := range d.sent {
			for _, m := range d.w.State().Actors[way[1]].Mail {
				if m.From == way[0] {
					l = slices.DeleteFunc(l, func(s string) bool { return s == told(m) })
				}
			}
			if len(l) > 0 {
				t.Fatalf("seed %d: %v are lost", seed, l)
			}
		}
	}
	if errors < acts/10 || errors > acts*9/10 {
		t.Errorf("%d of %d acts have an error", errors, acts)
	}
}

// thing is an object that is to be made: a String, an Array, or one of the class C.
type thing struct {
	kind string
	has  []int // the things that it has, -1 for none
}

// built makes things in an order, with others between them, and an actor that has some of them, and a message.
func built(t *testing.T, m *draw.Maker, l []thing, order []int, more bool) *world.World {
	w := begun(t, program(""))
	numbers := make([]api.Value, len(l))
	for _, i := range order {
		for range m.Below(3) {
			if more {
				w.Text(1, "nobody has it")
			}
		}
		switch l[i].kind {
		case "String":
			numbers[i], _ = w.Text(1, "s"+strconv.Itoa(i))
		case "main.C":
			numbers[i], _ = w.Make(1, "main.C")
		default:
			numbers[i], _ = w.Array(1, l[i].kind, nil)
		}
	}
	for i, x := range l {
		for k, n := range x.has {
			switch {
			case n < 0 || x.kind == "String":
			case x.kind == "main.C":
				w.Set(numbers[i], []string{"a", "b", "c"}[k], numbers[n])
			default:
				w.Call(1, numbers[i], "push", []api.Value{tuple(numbers[n], numbers[n])})
			}
		}
	}
	a, _ := w.Spawn("main.A")
	w.Set(a, "x", numbers[0])
	w.Set(a, "y", numbers[1])
	w.Send(api.Message{From: 1, To: 2, Name: "go", Args: []api.Value{numbers[2], tuple(numbers[0], numbers[3])}})
	return w
}

// TestTexts is P17.4: texts depend on no number of an object.
func TestTexts(t *testing.T) {
	for seed := range uint64(300) {
		m := draw.New(seed)
		var l []thing
		for range 4 + m.Below(6) {
			l = append(l, thing{draw.One(m, "String", "main.C", "main.C", "Array[Any]"), []int{m.Below(5) - 1, m.Below(5) - 1, m.Below(4)}})
		}
		order := make([]int, len(l))
		for i := range order {
			order[i] = i
		}
		first := built(t, m, l, order, false)
		for i := range order {
			j := m.Below(i + 1)
			order[i], order[j] = order[j], order[i]
		}
		second := built(t, m, l, order, true)
		if a, b := first.Dump(), second.Dump(); a != b {
			t.Fatalf("seed %d: Dump is\n%s, and\n%s", seed, a, b)
		}
		if a, b := first.State().Trace, second.State().Trace; told(a) != told(b) {
			t.Fatalf("seed %d: the traces are %s and %s", seed, told(a), told(b))
		}
		for name := range map[string]bool{"x": true, "y": true} {
			v, _ := first.Get(actor(2), name)
			u, _ := second.Get(actor(2), name)
			a, e := first.Show(v)
			b, f := second.Show(u)
			if a != b || e != f || e != api.OK {
				t.Fatalf("seed %d: Show is %s, error %d, and %s, error %d", seed, a, e, b, f)
			}
		}
	}
}
