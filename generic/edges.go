package generic

import (
	"cmp"
	"maps"
	"slices"

	"hackamore/api"
	"hackamore/exprs"
)

// Edge says that the type parameter From of an entity or a method becomes a part of an argument of the parameter To; Grows, if the argument is more than the parameter itself.
type Edge struct {
	From, To string
	Grows    bool
}

// Edges returns how type parameters flow into one another.
func Edges(p []api.Entity) ([]Edge, api.Errno) {
	if !isSmall(p) {
		return nil, api.ErrSize
	}
	f := newFlows(p)
	for _, x := range f.entities {
		for at, t := range mentioned(x) {
			f.within(at, t)
		}
		for i, m := range x.Methods {
			for e := range exprs.Nodes(m.Body) {
				if c, ok := callOf(e); ok {
					f.call(place{x, &x.Methods[i]}, c)
				}
			}
		}
	}
	return slices.SortedFunc(maps.Keys(f.edges), compareEdges), api.OK
}

func compareEdges(a, b Edge) int {
	grows := func(e Edge) int {
		if e.Grows {
			return 1
		}
		return 0
	}
	return cmp.Or(cmp.Compare(a.From, b.From), cmp.Compare(a.To, b.To), cmp.Compare(grows(a), grows(b)))
}

// target is a method with type parameters.
type target struct {
	entity string
	api.Method
}

// flows collects edges. Of several entities with one name the first one counts.
type flows struct {
	entities []api.Entity
	byName   map[string]api.Entity
	targets  map[string][]target // by the names of methods
	edges    map[Edge]bool
}

func newFlows(p []api.Entity) *flows {
	f := &flows{byName: map[string]api.Entity{}, targets: map[string][]target{}, edges: map[Edge]bool{}}
	for _, x := range p {
		if _, ok := f.byName[x.Name]; ok {
			continue
		}
		f.byName[x.Name] = x
		f.entities = append(f.entities, x)
		for _, m := range x.Methods {
			if len(m.Bounds) > 0 {
				f.targets[m.Name] = append(f.targets[m.Name], target{x.Name, m})
			}
		}
	}
	return f
}

// parameter returns how a type parameter is written, if something binds it.
func (at place) parameter(name string) (string, bool) {
	if at.method != nil && slices.Contains(names(at.method.Bounds), name) {
		return at.entity.Name + "." + at.method.Name + "." + name, true
	}
	if slices.Contains(names(at.entity.Bounds), name) {
		return at.entity.Name + "." + name, true
	}
	return "", false
}

// isSame reports whether a type is a parameter itself.
func (at place) isSame(t api.Type, parameter string) bool {
	name, ok := at.parameter(t.Name)
	return ok && t.Kind == api.TypeParam && name == parameter
}

// within adds the edges of all names' types in a type, and returns the parameters in it.
func (f *flows) within(at place, t api.Type) map[string]bool {
	found := map[string]bool{}
	if t.Kind == api.TypeParam {
		if from, ok := at.parameter(t.Name); ok {
			found[from] = true
		}
	}
	x, ok := f.byName[t.Name]
	isEntity := ok && t.Kind == api.TypeName && len(x.Bounds) == len(t.Args)
	for i, a := range t.Args {
		inside := f.within(at, a)
		for from := range inside {
			if isEntity {
				f.edges[Edge{from, x.Name + "." + x.Bounds[i].Name, !at.isSame(a, from)}] = true
			}
		}
		if len(found) == 0 {
			found = inside
		} else {
			maps.Copy(found, inside)
		}
	}
	return found
}

// call adds the edges of type arguments of a method.
func (f *flows) call(at place, c call) {
	for i, a := range c.args {
		for from := range f.within(at, a) {
			for _, m := range f.targets[c.method] {
				if len(m.Bounds) == len(c.args) && c.mayReach(m.entity) {
					f.edges[Edge{from, m.entity + "." + m.Name + "." + m.Bounds[i].Name, !at.isSame(a, from)}] = true
				}
			}
		}
	}
}

// Ends reports whether reification ends; otherwise it returns parameters that grow in a circle.
func Ends(p []api.Entity) (bool, []string, api.Errno) {
	l, e := Edges(p)
	if e != api.OK {
		return false, nil, e
	}
	circle := circles(l)
	var grow []string
	for _, x := range l {
		if x.Grows && circle[x.From] == circle[x.To] {
			grow = append(grow, x.From)
		}
	}
	return len(grow) == 0, slices.Compact(grow), api.OK
}

// circles returns a number for each parameter: two that lead to each other have the same one.
func circles(l []Edge) map[string]int {
	next := map[string][]string{}
	for _, x := range l {
		next[x.From] = append(next[x.From], x.To)
	}
	order, lowest, circle := map[string]int{}, map[string]int{}, map[string]int{}
	var stack []string
	var visit func(name string)
	visit = func(name string) {
		order[name] = len(order) + 1
		lowest[name] = order[name]
		stack = append(stack, name)
		for _, to := range next[name] {
			if order[to] == 0 {
				visit(to)
			}
			if circle[to] == 0 {
				lowest[name] = min(lowest[name], lowest[to])
			}
		}
		if lowest[name] < order[name] {
			return
		}
		for circle[name] == 0 {
			last := len(stack) - 1
			circle[stack[last]] = order[name]
			stack = stack[:last]
		}
	}
	for _, x := range l {
		if order[x.From] == 0 {
			visit(x.From)
		}
	}
	return circle
}
