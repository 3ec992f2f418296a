package matching

import "hackamore/api"

// todo is what a row asks of the rest of a value, part by part: that at a path must be one of a pattern. All rows that are looked
// at together ask of the same paths.
type todo struct {
	path    []int
	pattern Pattern
	leaves  leafSet // of the pattern
	next    *todo
}

// then returns what asks first of a path and then of the rest. It is nil for what takes nothing.
func then(path []int, p Pattern, next *todo) *todo {
	if len(p) == 0 {
		return nil
	}
	return &todo{path, p, leaves([]Pattern{p}, nil), next}
}

// alternative is a way in which a case is taken; done, if nothing is left to ask.
type alternative struct {
	taken int
	todo  *todo
}

// tooMany is what making a tree panics with.
type tooMany struct{}

// maker makes a decision tree, and counts its trees.
type maker struct {
	cases []Case
	trees int
}

// Decide returns a decision tree for cases.
func Decide(leaves int, operand Pattern, l []Case) (t Tree, e api.Errno) {
	if e := checkMatch(leaves, operand, l); e != api.OK {
		return Tree{}, e
	}
	defer func() {
		x := recover()
		if x == nil {
			return
		}
		if _, ok := x.(tooMany); !ok {
			panic(x)
		}
		t, e = Tree{}, api.ErrFull
	}()
	m := &maker{cases: l}
	var rows []alternative
	for i, c := range l {
		if first := then(nil, c.Pattern, nil); first != nil {
			rows = append(rows, alternative{i, first})
		}
	}
	var values []alternative
	if first := then(nil, operand, nil); first != nil {
		values = append(values, alternative{0, first})
	}
	return m.tree(rows, values), api.OK
}

// tree returns the tree for rows in their order, if the value is one of some. Where there is nothing left to ask, the first row
// is taken.
func (m *maker) tree(rows, values []alternative) Tree {
	m.trees++
	if m.trees > maxTrees {
		panic(tooMany{})
	}
	rows, values = known(rows, values)
	if len(rows) == 0 || len(values) == 0 {
		return Tree{Kind: Fail}
	}
	first := rows[0]
	if first.todo != nil {
		return m.test(rows, values)
	}
	t := Tree{Kind: Take, Case: first.taken}
	if m.cases[first.taken].Guard {
		others := rows
		for len(others) > 0 && others[0].taken == first.taken {
			others = others[1:]
		}
		t.Kids = []Tree{m.tree(others, values)}
	}
	return t
}

// known passes over parts that need no test: the leaves that may come are the same to all rows.
func known(rows, values []alternative) ([]alternative, []alternative) {
	for len(rows) > 0 && len(values) > 0 && rows[0].todo != nil {
		classes, possible := classesOf(rows, values)
		if len(classes) != 1 || classes[0].leaves != possible || hasTuples(values) {
			break
		}
		rows, values = passed(rows, possible), passed(values, possible)
	}
	return rows, values
}

func hasTuples(values []alternative) bool {
	for arity := 2; arity <= maxKids; arity++ {
		if len(entered(values, arity)) > 0 {
			return true
		}
	}
	return false
}

// test returns the tree that looks at the part of which all rows ask first.
func (m *maker) test(rows, values []alternative) Tree {
	classes, _ := classesOf(rows, values)
	t := Tree{Kind: Test, Path: append([]int{}, rows[0].todo.path...)}
	for _, c := range classes {
		t.Sorts = append(t.Sorts, Sort{Leaves: c.leaves.list()})
		t.Kids = append(t.Kids, m.tree(passed(rows, c.leaves), passed(values, c.leaves)))
	}
	for arity := 2; arity <= maxKids; arity++ {
		inside, come := entered(rows, arity), entered(values, arity)
		if len(inside) > 0 && len(come) > 0 {
			t.Sorts = append(t.Sorts, Sort{Arity: arity})
			t.Kids = append(t.Kids, m.tree(inside, come))
		}
	}
	if len(t.Kids) == 0 {
		return Tree{Kind: Fail}
	}
	return t
}

// class is a set of leaves that the same rows take.
type class struct {
	leaves leafSet
	rows   int
}

// classesOf divides the leaves that may come, which it returns too, by the rows that take them. Those that none takes are left out.
func classesOf(rows, values []alternative) ([]class, leafSet) {
	var possible leafSet
	for _, v := range values {
		for i, w := range v.todo.leaves {
			possible[i] |= w
		}
	}
	l := []class{{leaves: possible}}
	for _, r := range rows {
		var next []class
		for _, c := range l {
			in, out := class{rows: c.rows + 1}, class{rows: c.rows}
			for i, w := range c.leaves {
				in.leaves[i], out.leaves[i] = w&r.todo.leaves[i], w&^r.todo.leaves[i]
			}
			for _, part := range [...]class{in, out} {
				if part.leaves != (leafSet{}) {
					next = append(next, part)
				}
			}
		}
		l = next
	}
	var taken []class
	for _, c := range l {
		if c.rows > 0 {
			taken = append(taken, c)
		}
	}
	return taken, possible
}

// passed returns the rows that take some of the leaves, with what they ask then.
func passed(rows []alternative, leaves leafSet) []alternative {
	var l []alternative
	for _, r := range rows {
		for i, w := range r.todo.leaves {
			if w&leaves[i] != 0 {
				l = append(l, alternative{r.taken, r.todo.next})
				break
			}
		}
	}
	return once(l)
}

// entered returns the rows that take tuples of so many elements, with what they ask of these.
func entered(rows []alternative, arity int) []alternative {
	var l []alternative
	for _, r := range rows {
		for _, part := range r.todo.pattern {
			if len(part.Kids) == arity {
				l = r.into(part, l)
			}
		}
	}
	return once(l)
}

// into adds the row that asks of the elements of a tuple, if there are such tuples.
func (r alternative) into(part Part, l []alternative) []alternative {
	next := r.todo.next
	for i := len(part.Kids) - 1; i >= 0; i-- {
		path := append(append([]int{}, r.todo.path...), i)
		next = then(path, part.Kids[i], next)
		if next == nil {
			return l
		}
	}
	return append(l, alternative{r.taken, next})
}

// once returns rows but those that are there already.
func once(rows []alternative) []alternative {
	seen := map[alternative]bool{}
	var l []alternative
	for _, r := range rows {
		if !seen[r] {
			seen[r] = true
			l = append(l, r)
		}
	}
	return l
}
