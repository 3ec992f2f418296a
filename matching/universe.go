package matching

import (
	"iter"
	"math/bits"
	"slices"
	"strconv"

	"hackamore/api"
)

// leafSet has a bit for each leaf.
type leafSet [(api.MaxUnits + 63) / 64]uint64

func leavesOf(l []int) leafSet {
	var s leafSet
	for _, n := range l {
		s[n/64] |= 1 << (n % 64)
	}
	return s
}

// list returns the leaves, ascending.
func (s leafSet) list() []int {
	var l []int
	for i, w := range s {
		for ; w != 0; w &= w - 1 {
			l = append(l, 64*i+bits.TrailingZeros64(w))
		}
	}
	return l
}

// set is the number of a set of values in a universe. Two sets with the same values have the same number.
type set int

const nothing set = 0

// relation is the number of a set of tuples: of those of two values with sets behind the first ones, of longer ones with relations.
type relation int

// values are the values of a set: leaves, and tuples of two, three and four.
type values struct {
	leaves leafSet
	tuples [maxKids - 1]relation
}

// group says what may stand behind some first elements: the number of a set, or of a relation. Groups of a relation are apart,
// and no two have the same behind them.
type group struct {
	first set
	rest  int
}

// operation is what is done with two sets.
type operation int

const (
	or operation = iota
	and
	less
)

// question is an operation on two sets (with the arity 1), or on two relations.
type question struct {
	operation
	arity, a, b int
}

// universe keeps sets and relations, each once.
type universe struct {
	sets      []values
	relations [][]group
	setNumber map[values]set
	number    map[string]relation
	answers   map[question]int
}

func newUniverse() *universe {
	return &universe{
		sets:      make([]values, 1),
		relations: make([][]group, 1),
		setNumber: map[values]set{{}: nothing},
		number:    map[string]relation{},
		answers:   map[question]int{},
	}
}

func (u *universe) set(v values) set {
	n, ok := u.setNumber[v]
	if !ok {
		n = set(len(u.sets))
		u.setNumber[v] = n
		u.sets = append(u.sets, v)
	}
	return n
}

// relation returns the relation of some tuples, for which firsts tells which elements stand ahead of the same rest.
func (u *universe) relation(arity int, firsts map[int]set) relation {
	var l []group
	for rest, first := range firsts {
		if rest != 0 && first != nothing {
			l = append(l, group{first, rest})
		}
	}
	if len(l) == 0 {
		return 0
	}
	slices.SortFunc(l, func(a, b group) int { return a.rest - b.rest })
	key := []byte(strconv.Itoa(arity))
	for _, g := range l {
		key = strconv.AppendInt(append(key, ':'), int64(g.first), 10)
		key = strconv.AppendInt(append(key, ' '), int64(g.rest), 10)
	}
	n, ok := u.number[string(key)]
	if !ok {
		n = relation(len(u.relations))
		u.number[string(key)] = n
		u.relations = append(u.relations, l)
	}
	return n
}

// do returns the answer to a question.
func (u *universe) do(q question) int {
	switch {
	case q.a == q.b && q.operation != less || q.b == 0 && q.operation != and:
		return q.a
	case q.a == q.b || q.a == 0 && q.operation != or || q.b == 0:
		return 0
	case q.a == 0:
		return q.b
	}
	n, ok := u.answers[q]
	if !ok {
		if q.arity == 1 {
			n = int(u.ofSets(q))
		} else {
			n = int(u.ofRelations(q))
		}
		u.answers[q] = n
	}
	return n
}

// on returns the result of an operation on two sets.
func (u *universe) on(o operation, a, b set) set { return set(u.do(question{o, 1, int(a), int(b)})) }

func (u *universe) ofSets(q question) set {
	a, b := u.sets[q.a], u.sets[q.b]
	var v values
	for i := range v.leaves {
		switch q.operation {
		case or:
			v.leaves[i] = a.leaves[i] | b.leaves[i]
		case and:
			v.leaves[i] = a.leaves[i] & b.leaves[i]
		case less:
			v.leaves[i] = a.leaves[i] &^ b.leaves[i]
		}
	}
	for i := range v.tuples {
		v.tuples[i] = relation(u.do(question{q.operation, i + 2, int(a.tuples[i]), int(b.tuples[i])}))
	}
	return u.set(v)
}

// domain returns the first elements of a relation.
func (u *universe) domain(r relation) set {
	all := nothing
	for _, g := range u.relations[r] {
		all = u.on(or, all, g.first)
	}
	return all
}

func (u *universe) ofRelations(q question) relation {
	firsts := map[int]set{}
	add := func(first set, rest int) {
		if first != nothing && rest != 0 {
			firsts[rest] = u.on(or, firsts[rest], first)
		}
	}
	a, b := u.relations[q.a], u.relations[q.b]
	for _, g := range a {
		for _, h := range b {
			if both := u.on(and, g.first, h.first); both != nothing {
				add(both, u.do(question{q.operation, q.arity - 1, g.rest, h.rest}))
			}
		}
	}
	if q.operation != and {
		other := u.domain(relation(q.b))
		for _, g := range a {
			add(u.on(less, g.first, other), g.rest)
		}
	}
	if q.operation == or {
		other := u.domain(relation(q.a))
		for _, h := range b {
			add(u.on(less, h.first, other), h.rest)
		}
	}
	return u.relation(q.arity, firsts)
}

// row is a set of tuples, or of what is left of them behind their first elements, by the sets of their elements. It is of one of
// some sides.
type row struct {
	side  int
	elems []set
}

// sides says of rows how many sides are needed: values are meant that are in a row of each of these, and in none of others.
type sides struct {
	needed  int
	limited bool // whether what would be too large ends it
}

// lacks reports whether a needed side has no rows.
func (s sides) lacks(rows []row) bool {
	for side := range s.needed {
		if !slices.ContainsFunc(rows, func(r row) bool { return r.side == side }) {
			return true
		}
	}
	return false
}

// meant returns the values that are meant by the first elements of rows alone.
func (u *universe) meant(s sides, rows []row) set {
	all := make([]set, s.needed+1)
	for _, r := range rows {
		all[r.side] = u.on(or, all[r.side], r.elems[0])
	}
	out := all[0]
	for _, needed := range all[1:s.needed] {
		out = u.on(and, out, needed)
	}
	return u.on(less, out, all[s.needed])
}

// atoms hands on sets of first elements, apart from each other, each with what is left behind them of the rows that have them.
func (u *universe) atoms(s sides, rows []row) iter.Seq2[set, []row] {
	type atom struct {
		first set
		rows  []row
	}
	needed := slices.DeleteFunc(slices.Clone(rows), func(r row) bool { return r.side == s.needed })
	l := []atom{{u.meant(s, needed), nil}}
	for _, r := range rows {
		behind := row{r.side, r.elems[1:]}
		var next []atom
		for _, a := range l {
			switch in := u.on(and, a.first, r.elems[0]); in {
			case nothing:
				next = append(next, a)
			case a.first:
				next = append(next, atom{in, append(a.rows, behind)})
			default:
				next = append(next, atom{in, append(slices.Clone(a.rows), behind)}, atom{u.on(less, a.first, in), a.rows})
			}
		}
		l = next
	}
	return func(yield func(set, []row) bool) {
		for _, a := range l {
			if !yield(a.first, a.rows) {
				return
			}
		}
	}
}

// built returns the set, or the relation, of the values that rows mean.
func (u *universe) built(s sides, arity int, rows []row) int {
	if s.lacks(rows) {
		return 0
	}
	if arity == 1 {
		return int(u.meant(s, rows))
	}
	firsts := map[int]set{}
	size := 0
	for first, behind := range u.atoms(s, rows) {
		rest := u.built(s, arity-1, behind)
		if rest == 0 {
			continue
		}
		if firsts[rest] == nothing && s.limited {
			parts, inside := u.sizes(arity-1, rest)
			size += 2*parts + inside
			if size > maxLarge {
				panic(tooLarge{})
			}
		}
		firsts[rest] = u.on(or, firsts[rest], first)
	}
	return int(u.relation(arity, firsts))
}

// hasSome reports whether rows mean any values.
func (u *universe) hasSome(s sides, arity int, rows []row) bool {
	if s.lacks(rows) {
		return false
	}
	if arity == 1 {
		return u.meant(s, rows) != nothing
	}
	for _, behind := range u.atoms(s, rows) {
		if u.hasSome(s, arity-1, behind) {
			return true
		}
	}
	return false
}

// rowsOf returns the rows of the tuples of some size in patterns, each of a side of its own but for those that are without.
func (u *universe) rowsOf(arity int, needed, without []Pattern) []row {
	var rows []row
	add := func(side int, p Pattern) {
		for _, part := range p {
			if len(part.Kids) != arity {
				continue
			}
			r := row{side: side}
			for _, k := range part.Kids {
				elem := u.combined([]Pattern{k}, nil, false)
				r.elems = append(r.elems, elem)
			}
			if !slices.Contains(r.elems, nothing) {
				rows = append(rows, r)
			}
		}
	}
	for side, p := range needed {
		add(side, p)
	}
	for _, p := range without {
		add(len(needed), p)
	}
	return u.useful(len(needed), rows)
}

// useful returns the rows but those of needed sides that lie within a row of what is without.
func (u *universe) useful(needed int, rows []row) []row {
	isWithin := func(r, other row) bool {
		for i, elem := range r.elems {
			if u.on(less, elem, other.elems[i]) != nothing {
				return false
			}
		}
		return true
	}
	return slices.DeleteFunc(slices.Clone(rows), func(r row) bool {
		return r.side < needed && slices.ContainsFunc(rows, func(other row) bool { return other.side == needed && isWithin(r, other) })
	})
}

// leaves returns the leaves that all of some patterns take, and none of others.
func leaves(needed, without []Pattern) leafSet {
	taken := func(p Pattern) leafSet {
		var s leafSet
		for _, part := range p {
			for i, w := range leavesOf(part.Leaves) {
				s[i] |= w
			}
		}
		return s
	}
	all := taken(needed[0])
	for _, p := range needed[1:] {
		for i, w := range taken(p) {
			all[i] &= w
		}
	}
	for _, p := range without {
		for i, w := range taken(p) {
			all[i] &^= w
		}
	}
	return all
}

// combined returns the set of the values that all of some patterns take, and none of others.
func (u *universe) combined(needed, without []Pattern, limited bool) set {
	v := values{leaves: leaves(needed, without)}
	for i := range v.tuples {
		v.tuples[i] = relation(u.built(sides{len(needed), limited}, i+2, u.rowsOf(i+2, needed, without)))
	}
	return u.set(v)
}

// some reports whether there is a value that all of some patterns take, and none of others.
func (u *universe) some(needed, without []Pattern) bool {
	if leaves(needed, without) != (leafSet{}) {
		return true
	}
	for arity := 2; arity <= maxKids; arity++ {
		if u.hasSome(sides{needed: len(needed)}, arity, u.rowsOf(arity, needed, without)) {
			return true
		}
	}
	return false
}
