// Package values has what layers share that measure, compare and copy values. Tuples may share memory, so that what an evaluation
// makes in a few steps may have more parts than can ever be counted one by one: each tuple is looked at once.
package values

import (
	"slices"

	"hackamore/api"
)

// Most is the number of parts beyond which a value is larger than a result may be.
const Most = 1 << 25

// size is how many parts a value has, and how many tuples stand within each other in it.
type size struct{ parts, levels int }

// memory is where a list of values stands.
type memory struct {
	first *api.Value
	count int
}

// sizes are those of tuples that were met, by the memory of their elements.
type sizes map[memory]size

// Size returns the number of parts of a value, at most Most + 1, and its levels: how many tuples stand within each other.
func Size(v api.Value) (parts, levels int) {
	s := sizes{}.of(v)
	return s.parts, s.levels
}

func (m sizes) of(v api.Value) size {
	if len(v.Kids) == 0 {
		return size{parts: 1}
	}
	at := memory{&v.Kids[0], len(v.Kids)}
	if s, ok := m[at]; ok {
		return s
	}
	s := size{parts: 1}
	for _, k := range v.Kids {
		kid := m.of(k)
		s.parts = min(s.parts+kid.parts, Most+1)
		s.levels = max(s.levels, kid.levels)
	}
	s.levels++
	m[at] = s
	return s
}

// pair is the memory of the elements of two tuples, which have as many.
type pair struct {
	a, b  *api.Value
	count int
}

// Same reports whether two values have equal fields.
func Same(a, b api.Value) bool { return same(a, b, map[pair]bool{}) }

func same(a, b api.Value, met map[pair]bool) bool {
	if a.Kind != b.Kind || a.Lo != b.Lo || a.Hi != b.Hi || a.Name != b.Name || len(a.Kids) != len(b.Kids) {
		return false
	}
	if len(a.Kids) == 0 {
		return true
	}
	at := pair{&a.Kids[0], &b.Kids[0], len(a.Kids)}
	if at.a == at.b || met[at] {
		return true
	}
	met[at] = true
	for i, k := range a.Kids {
		if !same(k, b.Kids[i], met) {
			return false
		}
	}
	return true
}

// Clone returns a value that shares no memory with this one; this one itself, if it has more than Most parts.
func Clone(v api.Value) api.Value {
	if len(v.Kids) == 0 {
		v.Kids = nil
		return v
	}
	if parts, _ := Size(v); parts > Most {
		return v
	}
	return copied(v)
}

func copied(v api.Value) api.Value {
	v.Kids = slices.Clone(v.Kids)
	for i, k := range v.Kids {
		v.Kids[i] = copied(k)
	}
	return v
}

// CloneAll returns values that share no memory with these.
func CloneAll(l []api.Value) []api.Value {
	l = slices.Clone(l)
	for i, v := range l {
		l[i] = Clone(v)
	}
	return l
}
