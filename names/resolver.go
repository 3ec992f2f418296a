package names

import (
	"maps"
	"slices"
	"strings"

	"hackamore/api"
	"hackamore/parser"
	"hackamore/parts"
	"hackamore/sugar"
	"hackamore/syntax"
)

// builtinSource is the index of the sources of the builtin package, which have no errors.
const builtinSource = -1

// module is a source with the packages that it uses.
type module struct {
	index int
	pack  string
	root  parts.Part
	uses  []string
}

// entity is the declaration of an entity or an alias.
type entity struct {
	name    string // with its package
	part    parts.Part
	module  *module
	kind    int // 0 for an alias
	cap     int
	bounds  int
	builtin bool
	alias   *api.Type   // the type of an alias, as soon as it is known
	whole   *api.Entity // the entity of a number type, which has no part
}

// resolver is the work on a program.
type resolver struct {
	flags    []string
	modules  []*module
	entities []*entity // in their order
	packages map[string]map[string]*entity
	rules    map[int]func(*walker, parts.Part) api.Expr
}

// newResolver returns a resolver that has the builtin package.
func newResolver(flags []string) *resolver {
	r := &resolver{flags: flags, packages: map[string]map[string]*entity{"": {}}, rules: rules()}
	r.addBuiltin(builtinHead)
	for x := range numbers() {
		r.keep("", &entity{name: x.Name, kind: x.Kind, cap: x.Cap, builtin: true, whole: &x}, x.Name)
	}
	r.addBuiltin(builtinTail)
	return r
}

func (r *resolver) addBuiltin(text string) {
	tree, _, _ := parser.Parse(text)
	m := &module{index: builtinSource, root: parts.Root(tree)}
	r.declare(m)
}

// keep takes an entity of a package by its plain name.
func (r *resolver) keep(pack string, x *entity, name string) {
	r.packages[pack][name] = x
	r.entities = append(r.entities, x)
}

// isSource reports whether a source is a plain module of a package that can be.
func isSource(s Source) bool {
	use := api.Node{Kind: syntax.Use, Text: s.Package, Kids: []api.Node{{Kind: syntax.Nothing}}}
	return sugar.IsPlain(s.Tree) && (s.Package == "" || syntax.Check(use) == api.OK)
}

// add takes a source.
func (r *resolver) add(index int, s Source) {
	r.modules = append(r.modules, &module{index: index, pack: s.Package, root: parts.Root(s.Tree)})
	if r.packages[s.Package] == nil {
		r.packages[s.Package] = map[string]*entity{}
	}
}

func (m *module) fail(code api.Errno, p parts.Part) {
	panic(fault{Fault{m.index, p.Path()}, code})
}

// program returns the entities of all sources.
func (r *resolver) program() []api.Entity {
	for _, m := range r.modules {
		r.declare(m)
	}
	for _, x := range r.entities {
		if x.kind == 0 && r.leadsBack(x) {
			x.module.fail(ErrCycle, x.part)
		}
	}
	var p []api.Entity
	for _, x := range r.entities {
		switch {
		case x.whole != nil:
			p = append(p, *x.whole)
		case x.kind == 0:
			newWalker(r, x).checkAlias(x)
		default:
			p = append(p, newWalker(r, x).entity(x))
		}
	}
	return p
}

// declare takes the uses and the entities of a module.
func (r *resolver) declare(m *module) {
	for _, p := range m.root.From(0) {
		if p.Kind == syntax.Use {
			r.use(m, p)
		} else {
			r.declareEntity(m, p)
		}
	}
}

func (r *resolver) use(m *module, p parts.Part) {
	if condition := p.Kid(0); !condition.Nothing() {
		holds, _, e := parts.Holds(condition, r.flags)
		if e != api.OK {
			m.fail(api.ErrForm, p)
		}
		if !holds {
			return
		}
	}
	if r.packages[p.Text] == nil {
		m.fail(ErrUse, p)
	}
	m.uses = append(m.uses, p.Text)
}

func (r *resolver) declareEntity(m *module, p parts.Part) {
	if r.packages[m.pack][p.Text] != nil {
		m.fail(api.ErrTwice, p)
	}
	x := &entity{name: p.Text, part: p, module: m, kind: entityKind(p.Kids[0].Text), bounds: len(p.Kids[2].Kids), builtin: m.index == builtinSource}
	if m.pack != "" {
		x.name = m.pack + "." + p.Text
	}
	x.cap = capOf(p.Kids[1].Text)
	if x.cap == api.CapNone {
		x.cap = defaultCap(x.kind)
	}
	r.keep(m.pack, x, p.Text)
	checkNames(m, p)
}

// checkNames fails if names of bounds, members or parameters are there twice.
func checkNames(m *module, p parts.Part) {
	bounds := map[string]bool{}
	once(m, p.Kid(2).From(0), bounds)
	members := map[string]bool{}
	for _, k := range p.From(4) {
		once(m, []parts.Part{k}, members)
		if k.Kind == syntax.Method {
			once(m, k.Kid(2).From(0), maps.Clone(bounds))
			once(m, k.Kid(3).From(0), map[string]bool{})
		}
	}
}

// once puts the names of parts into a set, and fails if one is there.
func once(m *module, l []parts.Part, set map[string]bool) {
	for _, p := range l {
		if set[p.Text] {
			m.fail(api.ErrTwice, p)
		}
		set[p.Text] = true
	}
}

// entityKind returns the kind of an entity, or 0 for an alias.
func entityKind(word string) int {
	return map[string]int{"class": api.Class, "actor": api.Actor, "primitive": api.Primitive, "trait": api.Trait, "interface": api.Interface}[word]
}

// defaultCap returns the capability of an entity, or of a constructor, that has none.
func defaultCap(kind int) int {
	switch kind {
	case api.Actor:
		return api.Tag
	case api.Primitive:
		return api.Val
	}
	return api.Ref
}

// The names of capabilities, in the order of their numbers.
var capabilities = [...]string{"", "iso", "trn", "ref", "val", "box", "tag", "#read", "#send", "#share", "#alias", "#any"}

// capOf returns the capability that a word names, or CapNone.
func capOf(word string) int {
	for i, s := range capabilities {
		if s == word {
			return i
		}
	}
	return api.CapNone
}

// visible returns the entity that a name stands for in a module.
func (r *resolver) visible(m *module, name string) *entity {
	if pack, plain, ok := strings.Cut(name, "."); ok {
		for _, u := range m.uses {
			last := u[strings.LastIndex(u, "/")+1:]
			if x := r.packages[u][plain]; last == pack && x != nil {
				return x
			}
		}
		return nil
	}
	all := append([]string{m.pack}, m.uses...)
	for _, u := range append(all, "") {
		if x := r.packages[u][name]; x != nil {
			return x
		}
	}
	return nil
}

// leadsBack reports whether an alias leads to itself.
func (r *resolver) leadsBack(start *entity) bool {
	seen := map[string]bool{}
	waiting := []*entity{start}
	circle := false
search:
	for len(waiting) > 0 {
		x := waiting[0]
		waiting = waiting[1:]
		for _, next := range r.aliasesIn(x, x.part.Kids[3]) {
			if next == start {
				circle = true
				break search
			}
			if !seen[next.name] {
				seen[next.name] = true
				waiting = append(waiting, next)
			}
		}
	}
	return circle
}

// aliasesIn returns the aliases that are named in a part of an alias' type.
func (r *resolver) aliasesIn(x *entity, n api.Node) []*entity {
	var l []*entity
	if n.Kind == syntax.NamedType && !hasBound(x.part.Kids[2], n.Text) {
		if y := r.visible(x.module, n.Text); y != nil && y.kind == 0 {
			l = append(l, y)
		}
	}
	for _, k := range n.Kids {
		l = append(l, r.aliasesIn(x, k)...)
	}
	return l
}

// hasBound reports whether a name is one of Bounds.
func hasBound(bounds api.Node, name string) bool {
	return slices.ContainsFunc(bounds.Kids, func(b api.Node) bool { return b.Text == name })
}
