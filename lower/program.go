package lower

import (
	"slices"

	"hackamore/api"
	"hackamore/num"
	"hackamore/world"
)

// key is the name of an entity, and of a method.
type key struct{ entity, method string }

// program is a reified program with what its bodies have to know of it.
type program struct {
	*world.World
	entities map[string]api.Entity
	methods  map[key]api.Method  // that are found
	acts     map[string][]string // by the names of behaviours, the actors that have them
	runs     map[string]bool     // the names of methods that are called, or that the runtime gives
	raises   map[string]bool     // the names of those that may raise an error
}

// newProgram returns a program, or its error.
func newProgram(p []api.Entity) (*program, api.Errno) {
	w, e := world.New(p, nil)
	if e != api.OK {
		return nil, e
	}
	q := &program{World: w, entities: map[string]api.Entity{}, methods: map[key]api.Method{}, acts: map[string][]string{}, runs: map[string]bool{}, raises: map[string]bool{}}
	for _, x := range p {
		q.entities[x.Name] = x
	}
	q.addGiven()
	for _, x := range p {
		q.addMethods(x)
	}
	return q, api.OK
}

// addGiven notes the methods that the runtime gives.
func (q *program) addGiven() {
	for _, typ := range append(num.Types(), "Bool") {
		l, _ := num.Methods(typ)
		for _, s := range l {
			q.runs[s.Name] = true
			q.raises[s.Name] = q.raises[s.Name] || s.Partial
		}
	}
	for _, name := range []string{"string", "size", "add", "eq", "ne", "lt", "le", "gt", "ge", "substring", "push", "print"} {
		q.runs[name] = true
	}
	for _, name := range []string{"apply", "update", "pop"} {
		q.runs[name], q.raises[name] = true, true
	}
}

// addMethods notes the methods of a class, an actor or a primitive.
func (q *program) addMethods(x api.Entity) {
	if x.Kind == api.Trait || x.Kind == api.Interface {
		return
	}
	for _, name := range q.names(x.Name) {
		m, _ := q.method(x.Name, name)
		switch {
		case m.Kind != api.Be:
			q.runs[name] = q.runs[name] || m.Body.Op != 0
			q.raises[name] = q.raises[name] || m.Partial
		case x.Kind == api.Actor:
			q.acts[name] = append(q.acts[name], x.Name)
		}
	}
}

// names returns the names of methods in the order in which an entity, and then what it provides, name them first.
func (q *program) names(entity string) []string {
	var l []string
	met := map[string]bool{}
	var walk func(entity string)
	walk = func(entity string) {
		x, ok := q.entities[entity]
		if !ok || met[entity] {
			return
		}
		met[entity] = true
		for _, m := range x.Methods {
			if !slices.Contains(l, m.Name) {
				l = append(l, m.Name)
			}
		}
		for _, t := range x.Provides {
			if t.Kind == api.TypeName {
				walk(t.Name)
			}
		}
	}
	walk(entity)
	return l
}

// method returns the method that an entity has.
func (q *program) method(entity, name string) (api.Method, bool) {
	at := key{entity, name}
	m, ok := q.methods[at]
	if ok {
		return m, true
	}
	m, e := q.Method(entity, name)
	if e != api.OK {
		return api.Method{}, false
	}
	q.methods[at] = m
	return m, true
}

// isSent reports whether a method of some value is sent to it, and whether one of another value is run.
func (q *program) isSent(name string) (sent, run bool) {
	return len(q.acts[name]) > 0, q.runs[name]
}

// actors returns the type of the actors that have a behaviour.
func (q *program) actors(name string) api.Type {
	var l []api.Type
	for _, a := range q.acts[name] {
		l = append(l, named(a, api.Tag))
	}
	if len(l) == 1 {
		return l[0]
	}
	return api.Type{Kind: api.TypeUnion, Args: l}
}

func named(name string, c int) api.Type {
	return api.Type{Kind: api.TypeName, Name: name, Cap: c}
}
