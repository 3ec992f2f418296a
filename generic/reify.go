package generic

import (
	"cmp"
	"slices"
	"strings"

	"hackamore/api"
	"hackamore/exprs"
	"hackamore/subtype"
)

// least keeps the least of errors.
type least struct{ e api.Errno }

func (l *least) note(e api.Errno) {
	if e != api.OK && (l.e == api.OK || e < l.e) {
		l.e = e
	}
}

// need is an entity with type arguments.
type need struct {
	entity int
	name   string
}

// made is a needed instance, with the variants of each of its methods that has type parameters. So many of the wanted variants
// were tried already.
type made struct {
	need
	api.Entity
	variants [][]api.Method
	tried    int
}

// wanted is a method's name with type arguments.
type wanted struct {
	method, name string
	args         []api.Type
}

// reifier finds what is needed of a whole program.
type reifier struct {
	least
	program []api.Entity
	index   map[string]int
	needed  map[need]bool
	made    []made
	wanted  []wanted
	known   map[[2]string]bool // of those that are wanted, the methods' names and their names
	full    bool
}

// Reify returns the program without type parameters that an actor's constructor create reaches.
func Reify(p []api.Entity, main string) ([]api.Entity, api.Errno) {
	if !isSmall(p) {
		return nil, api.ErrSize
	}
	if !hasMain(p, main) {
		return nil, api.ErrNone
	}
	whole, e := Whole(p)
	if e != api.OK {
		return nil, e
	}
	ends, _, e := Ends(p)
	if e != api.OK {
		return nil, e
	}
	if !ends {
		return nil, ErrGrow
	}
	r := newReifier(whole)
	r.collect(main)
	switch {
	case r.full:
		return nil, api.ErrFull
	case r.e != api.OK:
		return nil, r.e
	}
	return r.result()
}

func hasMain(p []api.Entity, main string) bool {
	i, e := subtype.Find(p, main)
	return e == api.OK && p[i].Kind == api.Actor && len(p[i].Bounds) == 0 && slices.ContainsFunc(p[i].Methods, func(m api.Method) bool {
		return m.Kind == api.New && m.Name == "create" && len(m.Bounds) == 0
	})
}

func newReifier(p []api.Entity) *reifier {
	index := map[string]int{}
	for i, x := range p {
		if _, ok := index[x.Name]; !ok {
			index[x.Name] = i
		}
	}
	return &reifier{program: p, index: index, needed: map[need]bool{}, known: map[[2]string]bool{}}
}

// collect finds all that is needed, up to what is too much.
func (r *reifier) collect(main string) {
	r.need(r.index[main], nil)
	for i, x := range r.program {
		if !strings.Contains(x.Name, ".") && len(x.Bounds) == 0 && r.index[x.Name] == i {
			r.need(i, nil)
		}
	}
	for progress := true; progress && !r.full; {
		progress = false
		for i := 0; i < len(r.made); i++ {
			for r.made[i].tried < len(r.wanted) && !r.full {
				w := r.wanted[r.made[i].tried]
				r.made[i].tried++
				r.vary(i, w)
				progress = true
			}
		}
	}
}

// need makes an instance with normal arguments, if there is none yet, and all that it mentions.
func (r *reifier) need(entity int, args []api.Type) {
	name, e := Named(r.program[entity].Name, args)
	if e != api.OK {
		r.note(e)
		return
	}
	key := need{entity, name}
	if r.needed[key] || r.full {
		return
	}
	r.needed[key] = true
	x, e := instance(r.program, r.program[entity], args)
	if e != api.OK {
		r.note(e)
		return
	}
	m := made{need: key, Entity: x, variants: make([][]api.Method, len(x.Methods))}
	r.made = append(r.made, m)
	r.full = r.full || len(r.made) > api.MaxUnits || len(m.methods()) > api.MaxList
	for t := range head(x) {
		r.mention(t)
	}
	for _, f := range x.Methods {
		if len(f.Bounds) == 0 {
			r.method(f)
		}
	}
}

// methods returns the methods of an instance, with variants in the place of those that have type parameters.
func (m made) methods() []api.Method {
	var l []api.Method
	for i, f := range m.Methods {
		if len(f.Bounds) == 0 {
			l = append(l, f)
			continue
		}
		variants := slices.Clone(m.variants[i])
		slices.SortStableFunc(variants, func(a, b api.Method) int { return cmp.Compare(a.Name, b.Name) })
		l = append(l, variants...)
	}
	return l
}

// method finds what a method without type parameters mentions and calls.
func (r *reifier) method(m api.Method) {
	for t := range inMethod(m) {
		r.mention(t)
	}
	for x := range exprs.Nodes(m.Body) {
		c, ok := callOf(x)
		if !ok {
			continue
		}
		name, e := Named(c.method, c.args)
		if e != api.OK {
			r.note(e)
			continue
		}
		key := [2]string{c.method, name}
		if !r.known[key] {
			r.known[key] = true
			r.wanted = append(r.wanted, wanted{c.method, name, normals(c.args)})
		}
	}
}

// mention finds what a type needs.
func (r *reifier) mention(t api.Type) {
	if r.full {
		return
	}
	switch t.Kind {
	case api.TypeParam:
		r.note(ErrUnbound)
	case api.TypeName:
		i, ok := r.index[t.Name]
		switch {
		case !ok:
			r.note(api.ErrNone)
			return
		case len(r.program[i].Bounds) != len(t.Args):
			r.note(api.ErrArg)
			return
		}
		if _, e := Named(t.Name, t.Args); e != api.OK {
			r.note(e)
		} else {
			r.need(i, normals(t.Args))
		}
	}
	for _, a := range t.Args {
		r.mention(a)
	}
}

// vary gives an instance the variants of its methods that are wanted.
func (r *reifier) vary(instance int, w wanted) {
	for i, m := range r.made[instance].Methods {
		if len(m.Bounds) == 0 || m.Name != w.method || len(m.Bounds) != len(w.args) || fulfils(r.program, m.Bounds, w.args) != api.OK {
			continue
		}
		v, e := Variant(m, w.args)
		if e != api.OK {
			r.note(e)
			continue
		}
		r.made[instance].variants[i] = append(r.made[instance].variants[i], v)
		r.full = r.full || len(r.made[instance].methods()) > api.MaxList
		r.method(v)
	}
}

// result returns the instances, flat and in order.
func (r *reifier) result() ([]api.Entity, api.Errno) {
	slices.SortStableFunc(r.made, func(a, b made) int {
		return cmp.Or(cmp.Compare(a.entity, b.entity), cmp.Compare(a.name, b.name))
	})
	var out []api.Entity
	seen := map[string]bool{}
	for _, m := range r.made {
		if seen[m.name] {
			return nil, api.ErrTwice
		}
		seen[m.name] = true
		x := m.Entity
		x.Methods = m.methods()
		out = append(out, flatEntity(x))
	}
	return out, api.OK
}

// flatEntity returns an entity, which it may change, with flat types.
func flatEntity(x api.Entity) api.Entity {
	x.Provides = flatTypes(x.Provides)
	for i, f := range x.Fields {
		x.Fields[i].Type = flat(f.Type)
	}
	for i, m := range x.Methods {
		m.Params = slices.Clone(m.Params)
		for j, p := range m.Params {
			m.Params[j].Type = flat(p.Type)
		}
		m.Result, m.Body = flat(m.Result), flatExpr(m.Body)
		x.Methods[i] = m
	}
	return x
}

// flat returns a type whose names have no arguments, but stand for them.
func flat(t api.Type) api.Type {
	if t.Kind == api.TypeName && len(t.Args) > 0 {
		t.Name, _ = Named(t.Name, t.Args)
		t.Args = nil
	}
	t.Args = flatTypes(t.Args)
	return t
}

func flatTypes(l []api.Type) []api.Type { return mapped(l, flat) }

// mapped returns what a function makes of the elements of a list.
func mapped[T any](l []T, of func(T) T) []T {
	var out []T
	for _, x := range l {
		out = append(out, of(x))
	}
	return out
}

func flatExpr(x api.Expr) api.Expr {
	if c, ok := callOf(x); ok {
		x.Text, _ = Named(c.method, c.args)
		x.Types = x.Types[:len(x.Types)-len(c.args)]
	}
	x.Types, x.Kids = flatTypes(x.Types), mapped(x.Kids, flatExpr)
	return x
}
