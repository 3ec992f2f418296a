package flow

import "slices"

// plane says what is known of one property of all variables: those that surely have it, and those that have it if they had it
// at the entry of the part that is looked at.
type plane struct{ sure, kept []uint64 }

// state is what is known where something is reached; none is where nothing comes. A variable has a value, or may have been
// assigned, by what was so at the entry of the part that is looked at: so each part is looked at once, however it is entered.
type state struct{ value, assigned plane }

// newState returns the state in which no variable has anything.
func newState(words int) *state {
	list := func() []uint64 { return make([]uint64, words) }
	return &state{plane{list(), list()}, plane{list(), list()}}
}

// entry returns the state at the entry of a part.
func entry(words int) *state {
	s := newState(words)
	for i := range words {
		s.value.kept[i], s.assigned.kept[i] = ^uint64(0), ^uint64(0)
	}
	return s
}

func (p plane) clone() plane { return plane{slices.Clone(p.sure), slices.Clone(p.kept)} }

func (s *state) clone() *state {
	if s == nil {
		return nil
	}
	return &state{s.value.clone(), s.assigned.clone()}
}

func has(l []uint64, i int) bool { return l[i/64]>>(i%64)&1 == 1 }

// put says that a variable surely has a property, or surely has not.
func (p plane) put(i int, has bool) {
	bit := uint64(1) << (i % 64)
	p.kept[i/64] &^= bit
	p.sure[i/64] &^= bit
	if has {
		p.sure[i/64] |= bit
	}
}

// set gives a variable a value, which is assigned.
func (s *state) set(i int) {
	s.value.put(i, true)
	s.assigned.put(i, true)
}

// join returns the state where two ways meet. It may be one of them.
func join(a, b *state) *state {
	if a == nil {
		return b
	}
	if b == nil {
		return a
	}
	s := a.clone()
	both := func(i int) {
		mine, theirs := s.value, b.value
		lasting := (mine.sure[i] | mine.kept[i]) & (theirs.sure[i] | theirs.kept[i])
		mine.sure[i] &= theirs.sure[i]
		mine.kept[i] = lasting &^ mine.sure[i]
	}
	either := func(i int) {
		mine, theirs := s.assigned, b.assigned
		mine.sure[i] |= theirs.sure[i]
		mine.kept[i] = (mine.kept[i] | theirs.kept[i]) &^ mine.sure[i]
	}
	for i := range s.value.sure {
		both(i)
		either(i)
	}
	return s
}

// behind returns what a state within a part is, if the part is entered with another one.
func (s *state) behind(entry *state) *state {
	if s == nil || entry == nil {
		return nil
	}
	return &state{s.value.behind(entry.value), s.assigned.behind(entry.assigned)}
}

func (p plane) behind(entry plane) plane {
	p = p.clone()
	for i := range p.sure {
		p.sure[i] |= p.kept[i] & entry.sure[i]
		p.kept[i] &= entry.kept[i]
	}
	return p
}
