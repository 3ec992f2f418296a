package matching

import (
	"slices"

	"hackamore/api"
)

// tooLarge is what making a pattern panics with.
type tooLarge struct{}

// manyParts stands for all greater numbers of parts.
const manyParts = maxLarge + 1

// sizes returns how many parts the pattern of a set or a relation has, and how many there are in these.
func (u *universe) sizes(arity, number int) (parts, inside int) {
	if arity == 1 {
		return 1, u.size(set(number))
	}
	for _, g := range u.relations[number] {
		behind, within := u.sizes(arity-1, g.rest)
		parts += behind
		inside += within + behind*u.size(g.first)
		if parts+inside > maxLarge {
			return manyParts, manyParts
		}
	}
	return parts, inside
}

// size returns how many parts the pattern of a set has, with those of all patterns in it.
func (u *universe) size(s set) int {
	v := u.sets[s]
	n := 0
	if v.leaves != (leafSet{}) {
		n = 1
	}
	for i, r := range v.tuples {
		parts, inside := u.sizes(i+2, int(r))
		n = min(n+parts+inside, manyParts)
	}
	return n
}

// patternOf returns the normal form of a set's pattern, if it is not too large.
func (u *universe) patternOf(s set) (Pattern, api.Errno) {
	if u.size(s) > maxLarge {
		return nil, api.ErrLarge
	}
	return u.pattern(s), api.OK
}

// pattern returns the normal form of a set's pattern.
func (u *universe) pattern(s set) Pattern {
	v := u.sets[s]
	var p Pattern
	if v.leaves != (leafSet{}) {
		p = Pattern{{Leaves: v.leaves.list()}}
	}
	for i, r := range v.tuples {
		for _, kids := range u.tuples(i+2, int(r)) {
			p = append(p, Part{Kids: kids})
		}
	}
	return p
}

// tuples returns the normal forms of the elements' patterns of a set or a relation, in order.
func (u *universe) tuples(arity, number int) [][]Pattern {
	if arity == 1 {
		return [][]Pattern{{u.pattern(set(number))}}
	}
	var out [][]Pattern
	for _, g := range u.ordered(relation(number)) {
		for _, behind := range u.tuples(arity-1, g.rest) {
			out = append(out, append([]Pattern{u.pattern(g.first)}, behind...))
		}
	}
	return out
}

// ordered returns the groups of a relation in the order of the patterns of their first elements.
func (u *universe) ordered(r relation) []group {
	type keyed struct {
		group
		first Pattern
	}
	var l []keyed
	for _, g := range u.relations[r] {
		l = append(l, keyed{g, u.pattern(g.first)})
	}
	slices.SortFunc(l, func(a, b keyed) int { return compare(a.first, b.first) })
	var out []group
	for _, k := range l {
		out = append(out, k.group)
	}
	return out
}

// firstOf returns the first value that all of some patterns take, and none of others, if there is one.
func (u *universe) firstOf(needed, without []Pattern) (Value, bool) {
	if l := leaves(needed, without).list(); len(l) > 0 {
		return Value{Leaf: l[0]}, true
	}
	for arity := 2; arity <= maxKids; arity++ {
		s, rows := sides{needed: len(needed)}, u.rowsOf(arity, needed, without)
		if u.hasSome(s, arity, rows) {
			return Value{Kids: u.firstMeant(s, arity, rows)}, true
		}
	}
	return Value{}, false
}

// firstMeant returns the elements of the first tuple that rows mean. The group that has the least leaf is the first one: where
// there is a leaf, no others need be known.
func (u *universe) firstMeant(s sides, arity int, rows []row) []Value {
	if arity == 1 {
		return []Value{u.first(u.meant(s, rows))}
	}
	least := api.MaxUnits
	var behind []row
	for first, rest := range u.atoms(s, rows) {
		l := u.sets[first].leaves.list()
		if len(l) > 0 && l[0] < least && u.hasSome(s, arity-1, rest) {
			least, behind = l[0], rest
		}
	}
	if behind == nil {
		return u.firstTuple(arity, u.built(s, arity, rows))
	}
	return append([]Value{{Leaf: least}}, u.firstMeant(s, arity-1, behind)...)
}

// first returns the first value of a set that is not empty.
func (u *universe) first(s set) Value {
	v := u.sets[s]
	if l := v.leaves.list(); len(l) > 0 {
		return Value{Leaf: l[0]}
	}
	for i, r := range v.tuples {
		if r != 0 {
			return Value{Kids: u.firstTuple(i+2, int(r))}
		}
	}
	return Value{}
}

// firstTuple returns the elements of the first tuple of a relation that is not empty.
func (u *universe) firstTuple(arity, number int) []Value {
	if arity == 1 {
		return []Value{u.first(set(number))}
	}
	g := u.ordered(relation(number))[0]
	return append([]Value{u.first(g.first)}, u.firstTuple(arity-1, g.rest)...)
}
