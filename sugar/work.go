package sugar

import (
	"slices"
	"strconv"

	"hackamore/api"
	"hackamore/parts"
	"hackamore/syntax"
)

// rule rewrites the expressions of a kind.
type rule = func(*work, parts.Part) api.Node

// made is an entity that was made of a literal or a type of functions; its bounds are known only at the end.
type made struct {
	number int
	node   api.Node
	bounds []*bounds
}

// work is the rewriting of a module.
type work struct {
	rules     [syntax.Last + 1]rule
	flags     []string
	known     map[string]map[string]function // the methods of the entities
	newLocal  func() string
	newEntity func() string
	scope     *scope
	made      []*made // of the entity at hand
	count     int     // of all that was made
	copies    int     // nodes of what was rewritten for several places
	copying   bool
	rewritten map[string]bool
}

func newWork(n api.Node, flags []string) *work {
	w := &work{rules: rules(), flags: flags, known: map[string]map[string]function{}, rewritten: map[string]bool{}}
	used := map[string]bool{}
	texts(n, used)
	w.newLocal, w.newEntity = fresh("_", used), fresh("_O", used)
	for _, p := range parts.Root(n).From(0) {
		if _, twice := w.known[p.Text]; p.Kind == syntax.Entity && !twice {
			_, l := members(p.From(4))
			w.known[p.Text] = methodsOf(l)
		}
	}
	return w
}

// texts puts the Texts of a tree into a set.
func texts(n api.Node, set map[string]bool) {
	set[n.Text] = true
	for _, k := range n.Kids {
		texts(k, set)
	}
}

// fresh returns a source of names with a prefix that are not used.
func fresh(prefix string, used map[string]bool) func() string {
	n := 0
	return func() string {
		for {
			n++
			if s := prefix + strconv.Itoa(n); !used[s] {
				return s
			}
		}
	}
}

// over reports whether the plain tree is known to be too large: nothing of what was copied, or made, is left out of it.
func (w *work) over() bool {
	return w.copies > api.MaxNodes || w.count > api.MaxNodes
}

// module returns the plain tree, and false if it is too large.
func (w *work) module(p parts.Part) (api.Node, bool) {
	n := node(syntax.Module, "")
	for _, k := range p.From(0) {
		if k.Kind == syntax.Use {
			n.Kids = append(n.Kids, k.Node)
			continue
		}
		entity := w.entity(k)
		n.Kids = append(n.Kids, entity...)
	}
	return n, !w.over()
}

// finish returns the entities that were made of the one at hand, in the order of their numbers.
func (w *work) finish() []api.Node {
	l := w.made
	w.made = nil
	if w.over() {
		return nil
	}
	slices.SortFunc(l, func(a, b *made) int { return a.number - b.number })
	var out []api.Node
	for _, m := range l {
		m.node.Kids[2] = allBounds(m.bounds)
		out = append(out, m.node)
	}
	return out
}

func allBounds(l []*bounds) api.Node {
	n := node(syntax.Bounds, "")
	for _, b := range l {
		n.Kids = append(n.Kids, b.kids...)
	}
	return n
}

// begin returns a new entity, which is whole only when its members are there.
func (w *work) begin(kind string, l []*bounds) *made {
	m := &made{number: w.count, bounds: l}
	m.node = node(syntax.Entity, w.newEntity(), word(kind), word(""), node(syntax.Bounds, ""), nothing())
	w.count++
	return m
}

// keep takes an entity that is whole.
func (w *work) keep(m *made) {
	w.made = append(w.made, m)
}

func (w *work) expr(p parts.Part) api.Node {
	return w.rules[p.Kind](w, p)
}

// scoped rewrites a body, whose locals end with it.
func (w *work) scoped(p parts.Part) api.Node {
	return w.in(w.scope.inner(), func() api.Node { return w.expr(p) })
}

// in rewrites something in a scope.
func (w *work) in(s *scope, rewrite func() api.Node) api.Node {
	old := w.scope
	w.scope = s
	n := rewrite()
	w.scope = old
	return n
}

// again rewrites what stands in several places. As soon as the tree is too large, what had no error once need not be
// rewritten any more.
func (w *work) again(p parts.Part, s *scope) api.Node {
	key := ""
	for _, i := range p.Path() {
		key += strconv.Itoa(i) + " "
	}
	if w.over() && w.rewritten[key] {
		return nothing()
	}
	inner := w.copying
	w.copying = true
	n := w.in(s, func() api.Node { return w.expr(p) })
	w.copying = inner
	w.rewritten[key] = true
	if !inner {
		size, _ := syntax.Size(n)
		w.copies += size
	}
	return n
}
