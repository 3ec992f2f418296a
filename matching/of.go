package matching

import (
	"hackamore/api"
	"hackamore/subtype"
)

// isConcrete reports whether an entity has values of its own.
func isConcrete(x api.Entity) bool { return api.Class <= x.Kind && x.Kind <= api.Primitive }

// Leaves returns the concrete entities of a program without type parameters, which are the leaves of Of.
func Leaves(p []api.Entity) []string {
	if len(p) > api.MaxUnits {
		return nil
	}
	var l []string
	for _, x := range p {
		if isConcrete(x) {
			l = append(l, x.Name)
		}
	}
	return l
}

// Of returns the pattern of a type in such a program, without regard to capabilities.
func Of(p []api.Entity, t api.Type) (Pattern, api.Errno) {
	if len(p) > api.MaxUnits {
		return nil, api.ErrSize
	}
	r := &typeReader{newUniverse(), p, map[string]set{}}
	if e := r.check(t, 1); e != api.OK {
		return nil, e
	}
	return r.patternOf(r.typ(t))
}

// typeReader makes sets of types.
type typeReader struct {
	*universe
	program []api.Entity
	names   map[string]set
}

// check returns the error of a type within tuples, up to the given depth of values.
func (r *typeReader) check(t api.Type, depth int) api.Errno {
	args := t.Args
	switch t.Kind {
	case api.TypeParam, api.TypeSelf:
		return api.ErrType
	case api.TypeName:
		if len(t.Args) > 0 {
			return api.ErrForm
		}
		if _, e := subtype.Find(r.program, t.Name); e != api.OK {
			return api.ErrNone
		}
	case api.TypeArrow:
		if len(t.Args) != 2 {
			return api.ErrForm
		}
		args = t.Args[1:]
	case api.TypeUnion, api.TypeBoth, api.TypeTuple:
		if len(t.Args) < 2 {
			return api.ErrForm
		}
		if t.Kind == api.TypeTuple {
			depth++
			if len(t.Args) > maxKids || depth > maxDepth {
				return ErrPattern
			}
		}
	default:
		return api.ErrForm
	}
	for _, a := range args {
		if e := r.check(a, depth); e != api.OK {
			return e
		}
	}
	return api.OK
}

// typ returns the set of the values of a type without an error.
func (r *typeReader) typ(t api.Type) set {
	switch t.Kind {
	case api.TypeName:
		return r.name(t.Name)
	case api.TypeArrow:
		return r.typ(t.Args[1])
	case api.TypeTuple:
		return r.tuple(t.Args)
	}
	o := or
	if t.Kind == api.TypeBoth {
		o = and
	}
	all := r.typ(t.Args[0])
	for _, a := range t.Args[1:] {
		all = r.on(o, all, r.typ(a))
	}
	return all
}

func (r *typeReader) tuple(args []api.Type) set {
	rest := int(r.typ(args[len(args)-1]))
	for i := len(args) - 2; i >= 0; i-- {
		rest = int(r.relation(len(args)-i, map[int]set{rest: r.typ(args[i])}))
	}
	var v values
	v.tuples[len(args)-2] = relation(rest)
	return r.set(v)
}

// name returns the set of the values of an entity's name.
func (r *typeReader) name(name string) set {
	s, ok := r.names[name]
	if ok {
		return s
	}
	i, _ := subtype.Find(r.program, name)
	wanted := api.Type{Kind: api.TypeName, Name: name, Cap: api.Val}
	var leaves []int
	leaf := 0
	for j, x := range r.program {
		if !isConcrete(x) {
			continue
		}
		own := api.Type{Kind: api.TypeName, Name: x.Name, Cap: api.Val}
		if i == j || !isConcrete(r.program[i]) && subtype.Bare(r.program, own, wanted) {
			leaves = append(leaves, leaf)
		}
		leaf++
	}
	s = r.set(values{leaves: leavesOf(leaves)})
	r.names[name] = s
	return s
}
