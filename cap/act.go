package cap

import (
	"slices"

	"hackamore/api"
)

// Act is something that a holder does.
type Act struct{ Op, Holder, A, B, C, D int }

// Operations of acts.
const (
	Make  = 0
	Copy  = 1
	Move  = 2
	Read  = 3
	Write = 4
	Give  = 5
	Drop  = 6
)

// What the D of an act says of a reference.
const (
	copied  = 0
	givenUp = 1
)

// doer does an act in a yard of its own.
type doer struct {
	Yard
	Act
}

// Do returns a yard behind an act.
func Do(y Yard, a Act) (Yard, api.Errno) {
	if e := Check(y); e != api.OK {
		return Yard{}, e
	}
	if a.Holder < 0 || a.Holder >= len(y.Holders) {
		return Yard{}, api.ErrRange
	}
	acts := map[int]func(*doer) api.Errno{
		Make:  (*doer).makeThing,
		Copy:  (*doer).copyHeld,
		Move:  (*doer).move,
		Read:  (*doer).read,
		Write: (*doer).write,
		Give:  (*doer).give,
		Drop:  (*doer).drop,
	}
	act, ok := acts[a.Op]
	if !ok {
		return Yard{}, api.ErrArg
	}
	d := &doer{y.clone(), a}
	if e := act(d); e != api.OK {
		return Yard{}, e
	}
	if len(d.Fields) > MaxThings || holdsTooMuch(d.Yard) {
		return Yard{}, api.ErrFull
	}
	return d.Yard, api.OK
}

// held returns the references of the holder that acts.
func (d *doer) held() *[]Held { return &d.Holders[d.Holder] }

// reference returns the reference with an index of the holder that acts.
func (d *doer) reference(i int) (Held, api.Errno) {
	if l := *d.held(); 0 <= i && i < len(l) {
		return l[i], api.OK
	}
	return Held{}, api.ErrRange
}

// add gives the holder that acts a further reference.
func (d *doer) add(thing, c int) { *d.held() = append(*d.held(), Held{thing, c}) }

// remove takes a reference away from the holder that acts.
func (d *doer) remove(i int) { *d.held() = slices.Delete(*d.held(), i, i+1) }

// handed returns what a reference is worth where it is handed on, and whether D says how.
func (d *doer) handed(c int) (int, int, bool) {
	switch d.D {
	case copied:
		c, mark := Alias(c, api.Plain)
		return c, mark, true
	case givenUp:
		c, mark := Consumed(c, api.Plain)
		return c, mark, true
	}
	return 0, 0, false
}

func (d *doer) makeThing() api.Errno {
	if !Is(d.A) || !Is(d.B) || !Is(d.C) {
		return api.ErrCap
	}
	d.add(len(d.Fields), d.C)
	d.Fields = append(d.Fields, []Held{{-1, d.A}, {-1, d.B}})
	return api.OK
}

func (d *doer) copyHeld() api.Errno {
	h, e := d.reference(d.A)
	if e != api.OK {
		return e
	}
	if c, mark := Alias(h.Cap, api.Plain); !Fits(c, mark, d.B, api.Plain) {
		return api.ErrCap
	}
	d.add(h.Thing, d.B)
	return api.OK
}

func (d *doer) move() api.Errno {
	h, e := d.reference(d.A)
	if e != api.OK {
		return e
	}
	if c, mark := Consumed(h.Cap, api.Plain); !Fits(c, mark, d.B, api.Plain) {
		return api.ErrCap
	}
	(*d.held())[d.A].Cap = d.B
	return api.OK
}

func (d *doer) read() api.Errno {
	h, e := d.reference(d.A)
	if e != api.OK {
		return e
	}
	if d.B < 0 || d.B >= fieldsOfThing {
		return api.ErrRange
	}
	field := d.Fields[h.Thing][d.B]
	seen, ok := View(h.Cap, field.Cap)
	if !ok {
		return api.ErrCap
	}
	if field.Thing < 0 {
		return api.ErrNone
	}
	if c, mark := Alias(seen, api.Plain); !Fits(c, mark, d.C, api.Plain) {
		return api.ErrCap
	}
	d.add(field.Thing, d.C)
	return api.OK
}

func (d *doer) write() api.Errno {
	h, e := d.reference(d.A)
	if e != api.OK {
		return e
	}
	if d.B < 0 || d.B >= fieldsOfThing {
		return api.ErrRange
	}
	value, e := d.reference(d.C)
	if e != api.OK {
		return e
	}
	c, mark, ok := d.handed(value.Cap)
	if !ok || d.D == givenUp && d.A == d.C {
		return api.ErrArg
	}
	field := d.Fields[h.Thing][d.B]
	if !Fits(c, mark, field.Cap, api.Plain) || !Store(h.Cap, c, mark) {
		return api.ErrCap
	}
	old, _, _ := Extract(h.Cap, field.Cap)
	d.Fields[h.Thing][d.B].Thing = value.Thing
	if d.D == givenUp {
		d.remove(d.C)
	}
	if field.Thing >= 0 {
		d.add(field.Thing, old)
	}
	return api.OK
}

func (d *doer) give() api.Errno {
	if d.B < 0 || d.B >= len(d.Holders) {
		return api.ErrRange
	}
	if d.B == d.Holder {
		return api.ErrArg
	}
	h, e := d.reference(d.A)
	if e != api.OK {
		return e
	}
	c, mark, ok := d.handed(h.Cap)
	if !ok {
		return api.ErrArg
	}
	if !Sendable(d.C) || !Fits(c, mark, d.C, api.Plain) {
		return api.ErrCap
	}
	d.Holders[d.B] = append(d.Holders[d.B], Held{h.Thing, d.C})
	if d.D == givenUp {
		d.remove(d.A)
	}
	return api.OK
}

func (d *doer) drop() api.Errno {
	if _, e := d.reference(d.A); e != api.OK {
		return e
	}
	d.remove(d.A)
	return api.OK
}
