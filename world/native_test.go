package world_test

import (
	"math/bits"
	"strings"
	"testing"

	"hackamore/api"
	"hackamore/draw"
	"hackamore/num"
	"hackamore/world"
)

// called is what Call is to return of the varied state with some objects more: 9 is the String `abc`, 10 an empty one, 11 an empty
// Array, 12 a full one, 13 a String of 20000 bytes, 15 an Array of one element.
type called struct {
	name     string
	receiver api.Value
	method   string
	args     []api.Value
	e        api.Errno
	raised   bool
	want     api.Value // object(16) is a new one
	text     string    // of the new one
	after    func(s *world.State)
}

func more(t *testing.T) world.State {
	s := varied(t)
	s.Cells = append(s.Cells,
		api.Cell{Type: "String", Owner: 1, Bytes: "abc"},
		api.Cell{Type: "String", Owner: 2},
		api.Cell{Type: "Array[U8 val]", Owner: 1},
		api.Cell{Type: "Array[U8 val]", Owner: 1, Fields: many(10000)},
		api.Cell{Type: "String", Owner: 1, Bytes: strings.Repeat("x", 20000)},
		api.Cell{},
		api.Cell{Type: "Array[U8 val]", Owner: 1, Fields: values_(u8(3))},
	)
	return s
}

func values_(l ...api.Value) []api.Value { return l }

// calls has a case for each row of the chapter's table, and for its errors.
func calls() []called {
	abc, empty, long, made := object(9), object(10), object(13), object(16)
	f32 := api.Value{Kind: api.ValNumber + 12, Lo: 0x3dcccccd}
	return []called{
		{name: "the text of a number", receiver: u8(250), method: "string", want: made, text: "250"},
		{name: "the text of a float", receiver: f32, method: "string", want: made, text: "0.1"},
		{name: "the text of a Bool", receiver: truth(1), method: "string", want: made, text: "true"},
		{name: "the text of false", receiver: truth(0), method: "string", want: made, text: "false"},
		{name: "the text of a number of something", receiver: u8(1), method: "string", args: values_(u8(1)), e: api.ErrSize},
		{name: "a sum", receiver: u8(250), method: "add", args: values_(u8(10)), want: u8(4)},
		{name: "a sum that raises", receiver: u8(250), method: "add_partial", args: values_(u8(10)), raised: true},
		{name: "a conversion", receiver: u8(250), method: "u32", want: u32(250)},
		{name: "a Bool's", receiver: truth(1), method: "op_not", want: truth(0)},
		{name: "no method of a number", receiver: u8(1), method: "x", e: api.ErrNone},
		{name: "no method of a Bool", receiver: truth(1), method: "add", e: api.ErrNone},
		{name: "too few for a number", receiver: u8(1), method: "add", e: api.ErrSize},
		{name: "another type for a number", receiver: u8(1), method: "add", args: values_(u32(1)), e: api.ErrType},
		{name: "the text of None", receiver: none, method: "string", want: made, text: "None"},
		{name: "no method of None", receiver: none, method: "size", e: world.ErrMethod},
		{name: "the text of another unit", receiver: unit("AmbientAuth"), method: "string", e: world.ErrMethod},
		{name: "size", receiver: abc, method: "size", want: usize(3)},
		{name: "size of nothing", receiver: empty, method: "size", want: usize(0)},
		{name: "size of something", receiver: abc, method: "size", args: values_(u8(1)), e: api.ErrSize},
		{name: "apply", receiver: abc, method: "apply", args: values_(usize(2)), want: u8('c')},
		{name: "apply behind the end", receiver: abc, method: "apply", args: values_(usize(3)), raised: true},
		{name: "apply far behind the end", receiver: abc, method: "apply", args: values_(usize(1<<64 - 1)), raised: true},
		{name: "apply of another number", receiver: abc, method: "apply", args: values_(u8(1)), e: api.ErrType},
		{name: "add", receiver: abc, method: "add", args: values_(object(7)), want: made, text: "abcx"},
		{name: "add of too much", receiver: abc, method: "add", args: values_(long), e: api.ErrLarge},
		{name: "add of nothing", receiver: long, method: "add", args: values_(empty), want: made, text: strings.Repeat("x", 20000)},
		{name: "add of a number", receiver: abc, method: "add", args: values_(u8(1)), e: api.ErrType},
		{name: "add of two", receiver: abc, method: "add", args: values_(u8(1), u8(2)), e: api.ErrSize},
		{name: "eq of an object", receiver: abc, method: "eq", args: values_(object(4)), e: api.ErrType},
		{name: "substring", receiver: abc, method: "substring", args: values_(usize(1), usize(2)), want: made, text: "b"},
		{name: "substring of all", receiver: abc, method: "substring", args: values_(usize(0), usize(1<<64-1)), want: made, text: "abc"},
		{name: "substring of nothing", receiver: abc, method: "substring", args: values_(usize(2), usize(1)), want: made},
		{name: "substring behind the end", receiver: abc, method: "substring", args: values_(usize(1<<63), usize(1<<64-1)), want: made},
		{name: "substring of another number", receiver: abc, method: "substring", args: values_(usize(1), u8(1)), e: api.ErrType},
		{name: "string", receiver: abc, method: "string", want: abc},
		{name: "no method of a String", receiver: abc, method: "push", args: values_(u8(1)), e: world.ErrMethod},
		{name: "an Array's size", receiver: object(6), method: "size", want: usize(3)},
		{name: "an Array's apply", receiver: object(6), method: "apply", args: values_(usize(1)), want: tuple(object(5), truth(1))},
		{name: "an Array's apply behind the end", receiver: object(6), method: "apply", args: values_(usize(3)), raised: true},
		{name: "an Array's apply of another number", receiver: object(6), method: "apply", args: values_(u32(3)), e: api.ErrType},
		{name: "update", receiver: object(6), method: "update", args: values_(usize(1), u8(9)), want: tuple(object(5), truth(1)),
			after: func(s *world.State) { s.Cells[6].Fields[1] = u8(9) }},
		{name: "update behind the end", receiver: object(6), method: "update", args: values_(usize(3), u8(9)), raised: true},
		{name: "update of another number", receiver: object(6), method: "update", args: values_(u8(3), u8(9)), e: api.ErrType},
		{name: "update of nothing", receiver: object(6), method: "update", args: values_(usize(1)), e: api.ErrSize},
		{name: "push", receiver: object(11), method: "push", args: values_(tuple(none, abc)), want: none,
			after: func(s *world.State) { s.Cells[11].Fields = values_(tuple(none, abc)) }},
		{name: "push of none", receiver: object(11), method: "push", args: values_(api.Value{}), e: world.ErrBroken},
		{name: "push of too much", receiver: object(12), method: "push", args: values_(u8(1)), e: api.ErrFull},
		{name: "pop", receiver: object(6), method: "pop", want: none, after: func(s *world.State) { s.Cells[6].Fields = s.Cells[6].Fields[:2] }},
		{name: "pop of the last one", receiver: object(15), method: "pop", want: u8(3), after: func(s *world.State) { s.Cells[15].Fields = nil }},
		{name: "pop of nothing", receiver: object(11), method: "pop", raised: true},
		{name: "no method of an Array", receiver: object(6), method: "string", e: world.ErrMethod},
		{name: "print", receiver: actor(0), method: "print", args: values_(abc), want: none,
			after: func(s *world.State) { s.Output = append(s.Output, "abc") }},
		{name: "print of a number", receiver: actor(0), method: "print", args: values_(u8(1)), e: api.ErrType},
		{name: "print of nothing", receiver: actor(0), method: "print", e: api.ErrSize},
		{name: "no method of the actor 0", receiver: actor(0), method: "string", e: world.ErrMethod},
		{name: "print of another actor", receiver: actor(1), method: "print", args: values_(abc), e: world.ErrMethod},
		{name: "an object", receiver: object(4), method: "get", e: world.ErrMethod},
		{name: "an actor", receiver: actor(2), method: "get", e: world.ErrMethod},
		{name: "a tuple", receiver: tuple(u8(1), u8(1)), method: "string", e: world.ErrMethod},
		{name: "no receiver", receiver: api.Value{}, method: "x", args: values_(u8(1)), e: world.ErrBroken},
		{name: "a wrong receiver", receiver: object(8), method: "x", e: world.ErrBroken},
		{name: "a wrong argument", receiver: object(4), method: "x", args: values_(u8(1), actor(3)), e: world.ErrBroken},
		{name: "a wrong argument for a number", receiver: u8(1), method: "x", args: values_(actor(3)), e: world.ErrBroken},
		{name: "a wrong argument too many", receiver: abc, method: "size", args: values_(actor(3)), e: world.ErrBroken},
		{name: "a number too many, and of no type", receiver: abc, method: "apply", args: values_(abc, abc), e: api.ErrSize},
	}
}

// TestCall is P17.1 and P17.5 for Call.
func TestCall(t *testing.T) {
	for _, c := range calls() {
		s := more(t)
		w := loaded(t, s)
		v, raised, e := w.Call(2, c.receiver, c.method, c.args)
		if told(v) != told(c.want) || raised != c.raised || e != c.e {
			t.Errorf("%s: %s, %v, error %d", c.name, told(v), raised, e)
		}
		if c.want.Kind == api.ValObject && c.want.Lo == 16 {
			s.Cells = append(s.Cells, api.Cell{Type: "String", Owner: 2, Bytes: c.text})
		}
		if c.after != nil {
			c.after(&s)
		}
		if told(w.State()) != told(s) {
			t.Errorf("%s: the state is another one", c.name)
		}
		settled(t, w)
		for _, n := range []int{-1, 3, 4} {
			if v, raised, e := w.Call(n, c.receiver, c.method, c.args); e != api.ErrNone || raised || told(v) != told(api.Value{}) {
				t.Errorf("%s: for the actor %d: error %d", c.name, n, e)
			}
		}
	}
}

// TestCallFull is P17.5: what has no room for a new object, or a line more, is ErrFull, and changes nothing.
func TestCallFull(t *testing.T) {
	s := more(t)
	full(&s, 0)
	s.Output = make([]string, 100000)
	w := loaded(t, s)
	for _, c := range calls() {
		if c.after != nil && c.name != "print" {
			continue
		}
		want := c.e
		if c.want.Lo == 16 && c.want.Kind == api.ValObject || c.name == "print" {
			want, c.want = api.ErrFull, api.Value{}
		}
		v, raised, e := w.Call(2, c.receiver, c.method, c.args)
		if told(v) != told(c.want) || raised != c.raised || e != want {
			t.Errorf("%s: %s, %v, error %d", c.name, told(v), raised, e)
		}
	}
	if told(w.State()) != told(s) {
		t.Error("the state is another one")
	}
}

// TestWithoutNone is P17.1 for Call in a program that has no None: methods return it all the same.
func TestWithoutNone(t *testing.T) {
	w := begun(t, without(program(""), "None"), "a")
	if v, raised, e := w.Call(1, actor(0), "print", []api.Value{object(0)}); told(v) != told(none) || raised || e != api.OK {
		t.Errorf("print is %s, error %d", told(v), e)
	}
	if v, raised, e := w.Call(1, object(1), "push", []api.Value{u8(1)}); told(v) != told(none) || raised || e != api.OK {
		t.Errorf("push is %s, error %d", told(v), e)
	}
	if _, _, e := w.Call(1, none, "string", nil); e != world.ErrBroken {
		t.Errorf("the text of None: error %d", e)
	}
}

// TestNumbers is P17.1 for Call: numbers have what layer 15 says, with its errors.
func TestNumbers(t *testing.T) {
	m := draw.New(1)
	w := begun(t, program(""))
	kinds := append(num.Types(), "Bool")
	for range 20000 {
		typ := kinds[m.Below(len(kinds))]
		l, _ := num.Methods(typ)
		name := l[m.Below(len(l))].Name
		if name == "string" {
			continue
		}
		var args []api.Value
		for range 1 + m.Below(2) {
			args = append(args, drawnNumber(m, kinds[m.Below(len(kinds))], typ))
		}
		if args[0].Kind != drawnNumber(m, typ, typ).Kind {
			continue
		}
		v, raised, e := w.Call(1, args[0], name, args[1:])
		want, wantRaised, wantError := num.Call(typ, name, args)
		if told(v) != told(want) || raised != wantRaised || e != wantError {
			t.Fatalf("%s of %s is %s, error %d", name, told(args), told(v), e)
		}
	}
}

// drawnNumber returns a number of a type, often of the second one.
func drawnNumber(m *draw.Maker, typ, often string) api.Value {
	if m.Below(4) > 0 {
		typ = often
	}
	n := uint64(m.Below(1 << 30))
	if typ == "Bool" {
		return truth(n % 2)
	}
	if v, e := num.Of(typ, bits.RotateLeft64(n, m.Below(64))); e == api.OK {
		return v
	}
	kind, _ := num.Kind(typ)
	return api.Value{Kind: kind, Lo: n}
}

// TestOrder is P17.1 for the comparisons of Strings.
func TestOrder(t *testing.T) {
	texts := []string{"", "\x00", "a", "a\x00", "aa", "ab", "b", "\x7f", "\x80", "\xff", "é"}
	w := begun(t, program(""), texts...)
	for i, a := range texts {
		for j, b := range texts {
			for name, want := range map[string]bool{"eq": a == b, "ne": a != b, "lt": a < b, "le": a <= b, "gt": a > b, "ge": a >= b} {
				v, raised, e := w.Call(1, object(uint64(i)), name, []api.Value{object(uint64(j))})
				is := truth(0)
				if want {
					is = truth(1)
				}
				if e != api.OK || raised || told(v) != told(is) {
					t.Errorf("%q %s %q is %s, error %d", a, name, b, told(v), e)
				}
			}
		}
	}
}
