package cap

import (
	"cmp"
	"iter"
	"slices"

	"hackamore/api"
)

// Limits of a yard.
const (
	MaxHolders = 4
	MaxThings  = 50
	MaxHeld    = 20
)

// fieldsOfThing is how many fields each thing has.
const fieldsOfThing = 2

// Held is a reference that a holder has: its object and its capability.
type Held struct{ Thing, Cap int }

// Yard has holders (actors), and objects with fields, whose capabilities are told; a field without an object has -1.
type Yard struct {
	Holders [][]Held
	Fields  [][]Held
}

// NewYard returns a yard with holders that have nothing.
func NewYard(holders int) (Yard, api.Errno) {
	if holders < 1 || holders > MaxHolders {
		return Yard{}, api.ErrRange
	}
	return Yard{Holders: make([][]Held, holders)}, api.OK
}

// Check returns the error of a yard.
func Check(y Yard) api.Errno {
	if hasWrongSize(y) {
		return api.ErrSize
	}
	held := slices.Concat(y.Holders...)
	fields := slices.Concat(y.Fields...)
	if slices.ContainsFunc(held, isNone) || slices.ContainsFunc(fields, isNone) {
		return api.ErrCap
	}
	for _, h := range held {
		if h.Thing < 0 || h.Thing >= len(y.Fields) {
			return api.ErrRange
		}
	}
	for _, f := range fields {
		if f.Thing < -1 || f.Thing >= len(y.Fields) {
			return api.ErrRange
		}
	}
	return api.OK
}

func isNone(h Held) bool { return !Is(h.Cap) }

func hasWrongSize(y Yard) bool {
	return len(y.Holders) < 1 || len(y.Holders) > MaxHolders || len(y.Fields) > MaxThings || holdsTooMuch(y) ||
		slices.ContainsFunc(y.Fields, func(l []Held) bool { return len(l) != fieldsOfThing })
}

func holdsTooMuch(y Yard) bool {
	return slices.ContainsFunc(y.Holders, func(l []Held) bool { return len(l) > MaxHeld })
}

// clone returns a yard that shares no memory with this one.
func (y Yard) clone() Yard {
	for _, lists := range []*[][]Held{&y.Holders, &y.Fields} {
		*lists = slices.Clone(*lists)
		for i, l := range *lists {
			(*lists)[i] = slices.Clone(l)
		}
	}
	return y
}

// Seen returns all references that a holder has, directly or through fields.
func Seen(y Yard, holder int) []Held {
	if Check(y) != api.OK || holder < 0 || holder >= len(y.Holders) {
		return nil
	}
	return slices.SortedFunc(reached(y, holder), func(a, b Held) int {
		return cmp.Or(cmp.Compare(a.Thing, b.Thing), cmp.Compare(a.Cap, b.Cap))
	})
}

// reached hands on what a holder can reach, each pair of a thing and a capability once.
func reached(y Yard, holder int) iter.Seq[Held] {
	return func(yield func(Held) bool) {
		work := slices.Clone(y.Holders[holder])
		done := map[Held]bool{}
		for i := 0; i < len(work); i++ {
			h := work[i]
			if done[h] {
				continue
			}
			done[h] = true
			if !yield(h) {
				return
			}
			for _, f := range y.Fields[h.Thing] {
				if c, ok := View(h.Cap, f.Cap); ok && f.Thing >= 0 {
					work = append(work, Held{f.Thing, c})
				}
			}
		}
	}
}

// Race returns an object that one holder may write, and another one read.
func Race(y Yard) (thing, writer, reader int, found bool) {
	if Check(y) != api.OK {
		return 0, 0, 0, false
	}
	writers, readers := make([][MaxHolders]bool, len(y.Fields)), make([][MaxHolders]bool, len(y.Fields))
	for holder := range y.Holders {
		for h := range reached(y, holder) {
			writers[h.Thing][holder] = writers[h.Thing][holder] || Writes(h.Cap)
			readers[h.Thing][holder] = readers[h.Thing][holder] || Reads(h.Cap)
		}
	}
	for thing := range y.Fields {
		for w := range MaxHolders {
			for r := range MaxHolders {
				if w != r && writers[thing][w] && readers[thing][r] {
					return thing, w, r, true
				}
			}
		}
	}
	return 0, 0, 0, false
}
