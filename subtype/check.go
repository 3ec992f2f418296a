package subtype

import (
	"slices"

	"hackamore/api"
	"hackamore/cap"
	"hackamore/types"
)

// maxDeep is the depth of a derivation that is checked.
const maxDeep = 200

// Check returns the error of a derivation.
func Check(p []api.Entity, d Proof) api.Errno {
	if left := 2 * MaxSteps; len(p) > api.MaxUnits || !isSmall(d, &left, maxDeep) {
		return api.ErrSize
	}
	return checker{newProgram(p)}.all(d, nil)
}

// isSmall reports whether a derivation has at most left proofs, which it takes off, and at most a depth.
func isSmall(d Proof, left *int, depth int) bool {
	if *left == 0 || depth == 0 {
		return false
	}
	*left--
	for _, k := range d.Kids {
		if !isSmall(k, left, depth-1) {
			return false
		}
	}
	return true
}

// checker checks derivations in a program.
type checker struct{ program }

// all returns the error of a derivation, and then those below it.
func (c checker) all(d Proof, above *assumption) api.Errno {
	if e := c.proof(d, above); e != api.OK {
		return e
	}
	if d.Rule == Structure {
		above = &assumption{d.A, d.B, above}
	}
	for _, k := range d.Kids {
		if e := c.all(k, above); e != api.OK {
			return e
		}
	}
	return api.OK
}

// proof returns the error of a derivation by itself.
func (c checker) proof(d Proof, above *assumption) api.Errno {
	for _, t := range [...]api.Type{d.A, d.B} {
		if e := types.Check(t); e != api.OK {
			return e
		}
	}
	numbered := d.Rule == Super || d.Rule == UnionOne || d.Rule == BothOne
	if d.Rule < Super || d.Rule > Param || d.N < 0 || d.N > 0 && !numbered {
		return api.ErrArg
	}
	kids, e := c.wanted(d)
	if e != api.OK {
		return e
	}
	if !slices.EqualFunc(d.Kids, kids, func(k Proof, x pair) bool { return types.Equal(k.A, x[0]) && types.Equal(k.B, x[1]) }) {
		return api.ErrForm
	}
	if d.Rule == Assumed && !above.holds(d.A, d.B) {
		return api.ErrScope
	}
	return api.OK
}

// wanted returns the questions whose derivations must stand below one.
func (c checker) wanted(d Proof) ([]pair, api.Errno) {
	switch d.Rule {
	case Super, Structure, Assumed:
		return c.byName(d)
	case Param:
		if !isSame(d.A, d.B) {
			return nil, api.ErrForm
		}
		return nil, permitted(fitsSame(d.A, d.B))
	}
	if !isByParts(d) {
		return nil, api.ErrForm
	}
	l := d.parts()
	if d.Rule != UnionOne && d.Rule != BothOne {
		return l, api.OK
	}
	if d.N >= len(l) {
		return nil, api.ErrForm
	}
	return l[d.N : d.N+1], api.OK
}

// permitted returns the error of what capabilities do not permit.
func permitted(ok bool) api.Errno {
	if ok {
		return api.OK
	}
	return api.ErrCap
}

// isByParts reports whether the types of a derivation have the parts that its rule is about.
func isByParts(d Proof) bool {
	switch d.Rule {
	case UnionAll:
		return d.A.Kind == api.TypeUnion
	case BothAll:
		return d.B.Kind == api.TypeBoth
	case UnionOne:
		return d.B.Kind == api.TypeUnion
	case BothOne:
		return d.A.Kind == api.TypeBoth
	}
	return d.A.Kind == api.TypeTuple && d.B.Kind == api.TypeTuple && len(d.A.Args) == len(d.B.Args)
}

// byName returns the questions below a derivation for two entities' names.
func (c checker) byName(d Proof) ([]pair, api.Errno) {
	if d.A.Kind != api.TypeName || d.B.Kind != api.TypeName {
		return nil, api.ErrForm
	}
	var l []pair
	if d.Rule == Super {
		s, ok := c.super(d.A, d.N)
		if !ok || !isLike(s, d.B) {
			return nil, api.ErrForm
		}
		l = arguments(s, d.B)
	} else if !c.isInterface(d.B) {
		return nil, api.ErrForm
	}
	if !cap.Fits(d.A.Cap, d.A.Mark, d.B.Cap, d.B.Mark) {
		return nil, api.ErrCap
	}
	if d.Rule == Structure {
		return c.byMethods(d)
	}
	return l, api.OK
}

// super returns the supertype with a number.
func (c checker) super(t api.Type, number int) (api.Type, bool) {
	for n, s := range c.supers(t) {
		if n == number {
			return s, true
		}
	}
	return api.Type{}, false
}

// byMethods returns the questions of the methods of an interface.
func (c checker) byMethods(d Proof) ([]pair, api.Errno) {
	var l []pair
	for n := range c.methodsOf(d.B) {
		m, ok := c.method(d.A, n.Name)
		if !ok {
			return nil, api.ErrForm
		}
		questions, ok := compared(m, n, false)
		if !ok {
			return nil, api.ErrCap
		}
		l = append(l, questions...)
	}
	return l, api.OK
}
