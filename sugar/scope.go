package sugar

import (
	"hackamore/api"
	"hackamore/parts"
	"hackamore/syntax"
)

// What a lower name stands for.
const (
	unknown   = iota
	isLocal   // a local
	isField   // a field of the entity
	isCapture // a local from around a literal, which is a field in it
)

// bounds are those of an entity or a method; kids are there as soon as they are rewritten.
type bounds struct {
	names []string
	kids  []api.Node
}

func newBounds(n api.Node) *bounds {
	b := &bounds{}
	for _, k := range n.Kids {
		b.names = append(b.names, k.Text)
	}
	return b
}

// arguments returns the names of bounds as type arguments.
func arguments(l []*bounds) []api.Node {
	var out []api.Node
	for _, b := range l {
		for _, s := range b.names {
			out = append(out, named(s, "", "", nil))
		}
	}
	return out
}

// function is a method, or what is one in a literal.
type function struct {
	at               parts.Part
	kind, capability string
	name             string
	bounds           api.Node
	params           []parts.Part
	result           api.Node
	partial          string
	body             parts.Part
}

func functionOf(p parts.Part) function {
	return function{
		at: p, kind: p.Kids[0].Text, capability: p.Kids[1].Text, name: p.Text, bounds: p.Kids[2], params: p.Kid(3).From(0),
		result: p.Kids[4], partial: p.Kids[5].Text, body: p.Kid(6),
	}
}

// param returns the index of the parameter with a name, or -1.
func (f function) param(name string) int {
	for i, p := range f.params {
		if p.Text == name {
			return i
		}
	}
	return -1
}

// local is a local of around a literal that is named in it.
type local struct {
	name string
	typ  api.Node
}

// home is the entity in which something stands. That of a default value has no fields and knows no methods.
type home struct {
	name      string
	bounds    []*bounds
	fields    map[string]bool
	methods   map[string]function
	inDefault bool
	around    *scope  // where a literal stands; nil for an entity of the module
	captured  []local // what is taken from there
	inValues  bool    // the values of a literal's fields are rewritten, where what was taken is a parameter
}

// scope has the locals of a body, with their types.
type scope struct {
	outer  *scope
	home   *home
	bounds []*bounds // of the entity and of the method
	locals map[string]api.Node
}

func newScope(h *home, l []*bounds) *scope {
	return &scope{home: h, bounds: l, locals: map[string]api.Node{}}
}

func (s *scope) inner() *scope {
	in := newScope(s.home, s.bounds)
	in.outer = s
	return in
}

// declare takes a local that is in scope from here on.
func (s *scope) declare(name string, typ api.Node) {
	s.locals[name] = typ
}

// find returns what a lower name stands for, and the type of a local. A literal takes the local that it names.
func (s *scope) find(name string) (int, api.Node) {
	for x := s; x != nil; x = x.outer {
		if typ, ok := x.locals[name]; ok {
			return isLocal, typ
		}
	}
	h := s.home
	if h.fields[name] {
		return isField, api.Node{}
	}
	if h.around == nil {
		return unknown, api.Node{}
	}
	meaning, typ := h.around.find(name)
	if meaning != isLocal && meaning != isCapture {
		return unknown, api.Node{}
	}
	h.take(local{name, typ})
	if h.inValues {
		return isLocal, typ
	}
	return isCapture, typ
}

func (h *home) take(l local) {
	for _, x := range h.captured {
		if x.name == l.name {
			return
		}
	}
	h.captured = append(h.captured, l)
}

// methodsOf returns the first method with each name among members.
func methodsOf(l []function) map[string]function {
	table := map[string]function{}
	for _, f := range l {
		if _, ok := table[f.name]; !ok {
			table[f.name] = f
		}
	}
	return table
}

// members returns the fields and the methods among Kids.
func members(l []parts.Part) (fields []parts.Part, methods []function) {
	for _, p := range l {
		if p.Kind == syntax.Field {
			fields = append(fields, p)
		} else {
			methods = append(methods, functionOf(p))
		}
	}
	return fields, methods
}
