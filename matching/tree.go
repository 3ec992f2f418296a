package matching

import (
	"slices"
	"strings"

	"hackamore/api"
)

// Kinds of decision trees.
const (
	Fail = 0 // no case fits
	Take = 1 // Case is taken, if it has no guard or this holds; otherwise Kids[0] goes on
	Test = 2 // the part of the value at Path decides: Kids[i] goes on for what Sorts[i] says
)

// Sort is a set of leaves, or, with Arity 2 or more, tuples of so many elements.
type Sort struct {
	Leaves []int
	Arity  int
}

// Tree is a decision tree.
type Tree struct {
	Kind, Case int
	Path       []int
	Sorts      []Sort
	Kids       []Tree
}

const (
	maxTrees = 5000 // in a tree
	maxPath  = maxDepth - 1
)

// treeChecker checks trees. It counts them, and knows what was found by the tests on the way: the arities at paths, 0 for a leaf.
type treeChecker struct {
	leaves, cases, left int
	found               map[string]int
}

// CheckTree returns the error of a decision tree for so many leaves and cases.
func CheckTree(leaves, cases int, t Tree) api.Errno {
	if !isNumber(leaves) {
		return api.ErrArg
	}
	if cases < 0 || cases > maxCases {
		return api.ErrSize
	}
	c := &treeChecker{leaves, cases, maxTrees, map[string]int{}}
	if !c.isTree(t) {
		return ErrTree
	}
	return api.OK
}

// pathText returns the text of a path.
func pathText(path []int) string {
	var out strings.Builder
	for _, n := range path {
		out.WriteByte(byte('0' + n))
	}
	return out.String()
}

func (c *treeChecker) isTree(t Tree) bool {
	if c.left == 0 {
		return false
	}
	c.left--
	bare := len(t.Path)+len(t.Sorts) == 0
	switch t.Kind {
	case Fail:
		return bare && t.Case == 0 && len(t.Kids) == 0
	case Take:
		return bare && 0 <= t.Case && t.Case < c.cases && len(t.Kids) <= 1 && c.areTrees(t.Kids)
	case Test:
		return t.Case == 0 && len(t.Sorts) == len(t.Kids) && c.areSorts(t.Sorts) && c.isOpen(t.Path) && c.areBehind(t)
	}
	return false
}

func (c *treeChecker) areTrees(l []Tree) bool {
	return !slices.ContainsFunc(l, func(t Tree) bool { return !c.isTree(t) })
}

// areSorts reports whether there are sorts, and no two of them have anything together.
func (c *treeChecker) areSorts(l []Sort) bool {
	var leaves leafSet
	arities := map[int]bool{}
	for _, s := range l {
		if len(s.Leaves) == 0 {
			if !isArity(s.Arity) || arities[s.Arity] {
				return false
			}
			arities[s.Arity] = true
			continue
		}
		if s.Arity != 0 || !areLeaves(c.leaves, s.Leaves) {
			return false
		}
		for i, w := range leavesOf(s.Leaves) {
			if leaves[i]&w != 0 {
				return false
			}
			leaves[i] |= w
		}
	}
	return len(l) > 0
}

// isOpen reports whether a path may be looked at.
func (c *treeChecker) isOpen(path []int) bool {
	if len(path) > maxPath || slices.ContainsFunc(path, func(n int) bool { return n < 0 || n >= maxKids }) {
		return false
	}
	if _, tested := c.found[pathText(path)]; tested || len(path) == 0 {
		return !tested
	}
	last := len(path) - 1
	return path[last] < c.found[pathText(path[:last])]
}

// areBehind reports whether the Kids of a test are trees.
func (c *treeChecker) areBehind(t Tree) bool {
	key := pathText(t.Path)
	defer delete(c.found, key)
	for i, k := range t.Kids {
		c.found[key] = t.Sorts[i].Arity
		if !c.isTree(k) {
			return false
		}
	}
	return true
}

// Run returns the case that a decision tree takes for a value, and how many tests it made.
func Run(leaves int, t Tree, v Value, holds []bool) (taken, tests int, e api.Errno) {
	if !isNumber(leaves) {
		return 0, 0, api.ErrArg
	}
	if !isValue(leaves, v, maxDepth) {
		return 0, 0, ErrPattern
	}
	if e := CheckTree(leaves, len(holds), t); e != api.OK {
		return 0, 0, e
	}
	for {
		switch t.Kind {
		case Fail:
			return -1, tests, api.OK
		case Take:
			if len(t.Kids) == 0 || holds[t.Case] {
				return t.Case, tests, api.OK
			}
			t = t.Kids[0]
		case Test:
			tests++
			i := slices.IndexFunc(t.Sorts, func(s Sort) bool { return s.has(partAt(v, t.Path)) })
			if i < 0 {
				return -1, tests, api.OK
			}
			t = t.Kids[i]
		}
	}
}

func partAt(v Value, path []int) Value {
	for _, i := range path {
		v = v.Kids[i]
	}
	return v
}

// has reports whether a value is of a sort.
func (s Sort) has(v Value) bool {
	if len(v.Kids) == 0 {
		return slices.Contains(s.Leaves, v.Leaf)
	}
	return len(v.Kids) == s.Arity
}
