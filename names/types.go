package names

import (
	"hackamore/api"
	"hackamore/parts"
	"hackamore/syntax"
)

// named returns the type of an entity without type arguments.
func named(name string, capability int) api.Type {
	return api.Type{Kind: api.TypeName, Name: name, Cap: capability}
}

func none() api.Type { return named("None", api.Val) }

// constraint resolves the type of a bound, which may have one of the sets of capabilities.
func (w *walker) constraint(p parts.Part) api.Type {
	if p.Kind == syntax.NamedType {
		return w.namedType(p, true)
	}
	return w.typ(p)
}

func (w *walker) typ(p parts.Part) api.Type {
	t := api.Type{}
	switch p.Kind {
	case syntax.NamedType:
		return w.namedType(p, false)
	case syntax.ArrowType:
		return w.arrow(p)
	case syntax.UnionType:
		t.Kind = api.TypeUnion
	case syntax.BothType:
		t.Kind = api.TypeBoth
	case syntax.TupleType:
		t.Kind = api.TypeTuple
	default:
		w.fail(ErrKind, p)
	}
	t.Args = w.typesOf(p, 0)
	return t
}

// typesOf resolves the Kids from an index on, which are types.
func (w *walker) typesOf(p parts.Part, first int) []api.Type {
	var l []api.Type
	for _, k := range p.From(first) {
		l = append(l, w.typ(k))
	}
	return l
}

// arrow resolves a type that is seen through the receiver, or through a type parameter.
func (w *walker) arrow(p parts.Part) api.Type {
	left := p.Kid(0)
	seen := api.Type{Kind: api.TypeSelf}
	if left.Kind != syntax.ThisType {
		w.checkLeft(left)
		seen = w.typ(left)
		if seen.Kind != api.TypeParam {
			w.fail(ErrKind, left)
		}
	}
	return api.Type{Kind: api.TypeArrow, Args: []api.Type{seen, w.typ(p.Kid(1))}}
}

// checkLeft fails if a type may not stand on the left of an arrow whatever its arguments are. An alias may become a type parameter.
func (w *walker) checkLeft(p parts.Part) {
	if p.Kind != syntax.NamedType {
		w.fail(ErrKind, p)
	}
	isParam, isAlias := w.isParam(p.Text), false
	if !isParam {
		x := w.visible(w.module, p.Text)
		if x == nil {
			w.fail(api.ErrScope, p)
		}
		isAlias = x.kind == 0
	}
	if w.inAlias || !isParam && !isAlias {
		w.fail(ErrKind, p)
	}
}

// namedType resolves a name with its type arguments; sets says whether one of the sets of capabilities may stand there.
func (w *walker) namedType(p parts.Part, sets bool) api.Type {
	t := api.Type{Name: p.Text, Cap: capOf(p.Kids[0].Text), Mark: markOf(p.Kids[1].Text)}
	arguments := len(p.Kids) - 2
	if w.isParam(p.Text) {
		w.checkName(p, t, sets, arguments, 0)
		t.Kind = api.TypeParam
		return t
	}
	x := w.visible(w.module, p.Text)
	if x == nil {
		w.fail(api.ErrScope, p)
	}
	if x.kind == 0 && (t.Cap != api.CapNone || t.Mark != api.Plain) {
		w.fail(ErrKind, p)
	}
	w.checkName(p, t, sets, arguments, x.bounds)
	args := w.typesOf(p, 2)
	if x.kind == 0 && w.checking {
		return none()
	}
	if x.kind == 0 {
		return substituted(w.aliasOf(x), bindings(x, args))
	}
	t.Kind, t.Name, t.Args = api.TypeName, x.name, args
	if t.Cap == api.CapNone {
		t.Cap = x.cap
	}
	return t
}

// checkName fails if a capability may not stand at a name, or it has another number of type arguments than bounds.
func (w *walker) checkName(p parts.Part, t api.Type, sets bool, arguments, bounds int) {
	if !sets && t.Cap > api.Tag {
		w.fail(ErrKind, p)
	}
	if arguments != bounds {
		w.fail(ErrArity, p)
	}
}

func markOf(word string) int {
	switch word {
	case "^":
		return api.Ephemeral
	case "!":
		return api.Aliased
	}
	return api.Plain
}

// aliasOf returns the type of an alias, with its bounds as type parameters. What is wrong with it is told elsewhere.
func (w *walker) aliasOf(x *entity) (t api.Type) {
	if x.alias != nil {
		return *x.alias
	}
	defer func() {
		if r := recover(); r != nil {
			if _, ok := r.(fault); !ok {
				panic(r)
			}
			t = none()
			x.alias = &t
		}
	}()
	t = newWalker(w.resolver, x).typ(x.part.Kid(3))
	x.alias = &t
	return t
}

// checkAlias fails if something is wrong with the declaration of an alias. Those that it names are not expanded for this: the
// types of aliases that nothing else names may be larger than anything that can be made.
func (w *walker) checkAlias(x *entity) {
	w.checking = true
	w.bounds(x.part.Kid(2))
	w.typ(x.part.Kid(3))
}

// bindings returns what stands for the type parameters of an alias.
func bindings(x *entity, args []api.Type) map[string]api.Type {
	table := map[string]api.Type{}
	for i, b := range x.part.Kids[2].Kids {
		table[b.Text] = args[i]
	}
	return table
}

// substituted returns a type, as new memory, with others in place of type parameters.
func substituted(t api.Type, table map[string]api.Type) api.Type {
	if other, ok := table[t.Name]; ok && t.Kind == api.TypeParam {
		return spread(substituted(other, nil), t.Cap, t.Mark)
	}
	var args []api.Type
	for _, a := range t.Args {
		args = append(args, substituted(a, table))
	}
	t.Args = args
	return t
}

// spread gives a capability and a mark, if there are any, to all parts of a type.
func spread(t api.Type, capability, mark int) api.Type {
	switch t.Kind {
	case api.TypeUnion, api.TypeBoth, api.TypeTuple:
		for i := range t.Args {
			t.Args[i] = spread(t.Args[i], capability, mark)
		}
		return t
	case api.TypeArrow:
		t.Args[1] = spread(t.Args[1], capability, mark)
		return t
	}
	if capability != api.CapNone {
		t.Cap = capability
	}
	if mark != api.Plain {
		t.Mark = mark
	}
	return t
}
