package check

import (
	"slices"

	"hackamore/api"
	"hackamore/cap"
	"hackamore/subtype"
	"hackamore/types"
)

func (n node) match() (api.Type, api.Errno) {
	operand := n.kids[0]
	if isZero(operand) {
		return api.Type{}, api.ErrType
	}
	var sure []api.Type
	for _, k := range n.x.Kids[1:] {
		if len(k.Types) != 1 || len(k.Kids) != 2 || !n.claims(operand, k.Types[0]) {
			return api.Type{}, ErrCases
		}
		if isNone(k.Kids[0]) {
			sure = append(sure, k.Types[0])
		}
	}
	covered, e := union(sure...)
	if e != api.OK {
		return api.Type{}, e
	}
	cases := n.kids[1:len(n.kids):len(n.kids)]
	if !subtype.Bare(n.list, operand, covered) {
		cases = append(cases, none())
	}
	return union(cases...)
}

func (n node) matchCase() (api.Type, api.Errno) {
	if !isHeld(n.x.Types[0]) {
		return api.Type{}, api.ErrForm
	}
	if !isNone(n.x.Kids[0]) && !n.fits(n.kids[0], boolean()) {
		return api.Type{}, api.ErrType
	}
	return n.kids[1], api.OK
}

// claims reports whether values of a type may be bound with another one.
func (g *program) claims(operand, claim api.Type) bool {
	if types.Check(operand) != api.OK || types.Check(claim) != api.OK {
		return false
	}
	return each(operand, claim, g.agree)
}

// alternatives returns the alternatives of a type.
func alternatives(t api.Type) []api.Type {
	if t.Kind != api.TypeUnion {
		return []api.Type{t}
	}
	var l []api.Type
	for _, a := range t.Args {
		l = append(l, alternatives(a)...)
	}
	return l
}

// each reports whether something holds for each alternative of a type with each one of another type.
func each(a, b api.Type, holds func(x, y api.Type) bool) bool {
	l := alternatives(b)
	for _, x := range alternatives(a) {
		if slices.ContainsFunc(l, func(y api.Type) bool { return !holds(x, y) }) {
			return false
		}
	}
	return true
}

// isTuple reports whether a type is a tuple.
func isTuple(t api.Type) bool { return t.Kind == api.TypeTuple }

// hasTuple reports whether a type has a tuple.
func hasTuple(t api.Type) bool {
	return isTuple(t) || (t.Kind == api.TypeUnion || t.Kind == api.TypeBoth) && slices.ContainsFunc(t.Args, hasTuple)
}

// agree reports whether values of an alternative may be bound with another one.
func (g *program) agree(x, y api.Type) bool {
	switch {
	case isTuple(x) && isTuple(y):
		return len(x.Args) != len(y.Args) || g.agreeTuples(x, y)
	case hasTuple(x) && hasTuple(y):
		return false
	case isTuple(x) || isTuple(y):
		return true
	}
	isPermitted := x.Kind == api.TypeName && y.Kind == api.TypeName && cap.Fits(x.Cap, x.Mark, y.Cap, y.Mark)
	return isPermitted || !g.common(x, y)
}

// agreeTuples reports whether two tuples with as many Args agree.
func (g *program) agreeTuples(x, y api.Type) bool {
	all := true
	for i, a := range x.Args {
		if !g.common(a, y.Args[i]) {
			return true
		}
		all = all && each(a, y.Args[i], g.agree)
	}
	return all
}

// common reports whether two types have something in common.
func (g *program) common(a, b api.Type) bool {
	return !each(a, b, func(x, y api.Type) bool { return !g.meet(x, y) })
}

// meet reports whether two alternatives have something in common.
func (g *program) meet(x, y api.Type) bool {
	if isTuple(x) && isTuple(y) && len(x.Args) == len(y.Args) {
		for i, a := range x.Args {
			if !g.common(a, y.Args[i]) {
				return false
			}
		}
		return true
	}
	theirs := g.takes(y)
	for i, takes := range g.takes(x) {
		if takes && theirs[i] {
			return true
		}
	}
	return false
}

// takes tells of each entity whether it is a concrete one that a type takes.
func (g *program) takes(t api.Type) []bool {
	key, _ := types.Text(t)
	l, ok := g.taken[key]
	if !ok {
		l = make([]bool, len(g.list))
		for i, x := range g.list {
			l[i] = isConcrete(x) && g.takesOne(t, i)
		}
		g.taken[key] = l
	}
	return l
}

// takesOne reports whether a type takes the entity with an index, which is a concrete one.
func (g *program) takesOne(t api.Type, i int) bool {
	takes := func(a api.Type) bool { return g.takes(a)[i] }
	switch t.Kind {
	case api.TypeUnion:
		return slices.ContainsFunc(t.Args, takes)
	case api.TypeBoth:
		return !slices.ContainsFunc(t.Args, func(a api.Type) bool { return !takes(a) })
	}
	return subtype.Bare(g.list, types.Named(g.list[i].Name, api.Ref, nil), t)
}
