package flow

import (
	"cmp"
	"slices"
	"strings"

	"hackamore/api"
	"hackamore/exprs"
)

// exits are the states with which a part is left otherwise than by its end.
type exits struct{ errors, returns, breaks, continues *state }

// all returns the places of the states.
func (x *exits) all() [4]**state {
	return [...]**state{&x.errors, &x.returns, &x.breaks, &x.continues}
}

// key says which fault it is: its code, and its path as a text by which faults are in the order of the walk.
type key struct {
	path string
	code api.Errno
}

// condition says when there is a fault: surely, or if one of some variables has not what is wanted at the entry of the part.
type condition struct {
	surely bool
	on     []int
}

// frame is what is known of a part that is looked at: its state now, how it is left, its faults, and the state at the part for
// which one looks.
type frame struct {
	exits
	now    *state
	faults map[key]condition
	seen   *state
}

// place says where an expression stands.
type place struct {
	used   bool // its value
	looped bool // in a loop that it may break
	caught bool // in the first Kid of an OpTry
	held   bool // the object of a field
}

// part returns the place of a Kid whose value is used.
func (p place) part() place {
	p.used, p.held = true, false
	return p
}

// branch returns the place of a Kid whose value is that of the whole.
func (p place) branch() place {
	p.held = false
	return p
}

// walker looks at a body.
type walker struct {
	frame
	body        api.Expr
	locals      map[string]int // numbers of variables
	fields      map[string]int
	names       []string // of the fields, in order
	numbers     []int    // of the fields, in order
	once        map[string]bool
	onceFields  map[string]bool
	given       []string // parameters
	raising     map[string]bool
	constructor bool
	partial     bool
	function    bool
	target      []int
	looking     bool
	passed      *state // by the case at hand
	path        []int
	run         [api.OpLast + 1]func(w *walker, x api.Expr, p place)
}

func newWalker(body api.Expr, given []string, partial [][]int) *walker {
	w := &walker{body: body, given: given, locals: map[string]int{}, fields: map[string]int{}, once: map[string]bool{}, onceFields: map[string]bool{}, raising: map[string]bool{}}
	for _, name := range given {
		w.declare(name)
		w.once[name] = true
	}
	for x := range exprs.Nodes(body) {
		switch x.Op {
		case api.OpLocal, api.OpConsume, api.OpVar, api.OpAssign:
			w.declare(x.Text)
		case api.OpLet, api.OpCase:
			w.declare(x.Text)
			w.once[x.Text] = x.Text != "" || x.Op == api.OpLet || w.once[x.Text]
		}
	}
	for _, path := range partial {
		if s, ok := pathText(path); ok {
			w.raising[s] = true
		}
	}
	w.run = table()
	return w
}

// table returns what runs the operations. All others run their Kids.
func table() [api.OpLast + 1]func(w *walker, x api.Expr, p place) {
	return [api.OpLast + 1]func(w *walker, x api.Expr, p place){
		api.OpLocal:    (*walker).local,
		api.OpThis:     (*walker).this,
		api.OpGet:      (*walker).get,
		api.OpSet:      (*walker).set,
		api.OpVar:      (*walker).variable,
		api.OpLet:      (*walker).variable,
		api.OpAssign:   (*walker).assign,
		api.OpConsume:  (*walker).consume,
		api.OpSeq:      (*walker).seq,
		api.OpIf:       (*walker).choice,
		api.OpWhile:    (*walker).while,
		api.OpMatch:    (*walker).match,
		api.OpCase:     (*walker).matchCase,
		api.OpTry:      (*walker).try,
		api.OpError:    (*walker).raise,
		api.OpReturn:   (*walker).leave,
		api.OpBreak:    (*walker).jump,
		api.OpContinue: (*walker).jump,
		api.OpCall:     (*walker).call,
		api.OpNew:      (*walker).call,
		api.OpRecover:  (*walker).recovered,
	}
}

// declare gives a local variable a number.
func (w *walker) declare(name string) {
	if _, ok := w.locals[name]; !ok {
		w.locals[name] = len(w.locals) + len(w.fields)
	}
}

// addField gives a field a number. The first one of a name counts.
func (w *walker) addField(f api.Field) {
	if _, ok := w.fields[f.Name]; ok {
		return
	}
	n := len(w.locals) + len(w.fields)
	w.fields[f.Name] = n
	w.onceFields[f.Name] = f.Let
	w.names, w.numbers = append(w.names, f.Name), append(w.numbers, n)
}

// look asks for the state ahead of the part at a path.
func (w *walker) look(path []int) { w.target, w.looking = path, true }

func (w *walker) words() int { return (len(w.locals)+len(w.fields))/64 + 1 }

// pathText returns the text of a path in a tree of a size that is not too large.
func pathText(path []int) (string, bool) {
	var out strings.Builder
	for _, i := range path {
		if i < 0 || i >= api.MaxNodes {
			return "", false
		}
		out.WriteByte(byte(i >> 8))
		out.WriteByte(byte(i))
	}
	return out.String(), true
}

// pathOf returns the path with a text.
func pathOf(s string) []int {
	var path []int
	for i := 0; i < len(s); i += 2 {
		path = append(path, int(s[i])<<8|int(s[i+1]))
	}
	return path
}

// start looks at the whole body.
func (w *walker) start() {
	w.faults = map[key]condition{}
	w.now = newState(w.words())
	for _, name := range w.given {
		w.now.set(w.locals[name])
	}
	w.node(w.body, place{used: w.function})
}

// report looks at the body of a method.
func (w *walker) report() Report {
	w.start()
	if w.constructor && w.now != nil {
		w.needs(ErrField, w.numbers...)
	}
	if w.partial && w.errors == nil {
		w.fault(ErrPartial)
	}
	r := Report{Errors: w.errors != nil}
	ends := join(w.now, w.returns)
	r.Ends = ends != nil
	for i, name := range w.names {
		if w.constructor && r.Ends && has(ends.value.sure, w.numbers[i]) {
			r.Fields = append(r.Fields, name)
		}
	}
	for k := range w.faults {
		r.Faults = append(r.Faults, Fault{k.code, pathOf(k.path)})
	}
	slices.SortFunc(r.Faults, func(a, b Fault) int {
		return cmp.Or(slices.Compare(a.Path, b.Path), cmp.Compare(a.Code, b.Code))
	})
	return r
}

// seenAt looks at the body, and returns the variables that have a value at the part for which one looks.
func (w *walker) seenAt() ([]string, api.Errno) {
	w.start()
	if w.seen == nil {
		return nil, ErrDead
	}
	var l []string
	for name, n := range w.locals {
		if has(w.seen.value.sure, n) {
			l = append(l, name)
		}
	}
	slices.Sort(l)
	return l, api.OK
}

// node looks at an expression that is reached.
func (w *walker) node(x api.Expr, p place) {
	if w.looking && slices.Equal(w.path, w.target) {
		w.seen = join(w.seen, w.now.clone())
	}
	if run := w.run[x.Op]; run != nil {
		run(w, x, p)
		return
	}
	w.kids(x, p)
}

// kid looks at a Kid, if it is there and reached.
func (w *walker) kid(x api.Expr, i int, p place) {
	if w.now == nil || exprs.IsNone(x.Kids[i]) {
		return
	}
	w.path = append(w.path, i)
	w.node(x.Kids[i], p)
	w.path = w.path[:len(w.path)-1]
}

// kids looks at all Kids, whose values are used.
func (w *walker) kids(x api.Expr, p place) {
	for i := range x.Kids {
		w.kid(x, i, p.part())
	}
}

// fault tells of a fault at the expression at hand.
func (w *walker) fault(code api.Errno) { w.add(w.key(code), condition{surely: true}) }

func (w *walker) key(code api.Errno) key {
	s, _ := pathText(w.path)
	return key{s, code}
}

// add adds a fault, or a further condition of one.
func (w *walker) add(k key, c condition) {
	old := w.faults[k]
	c.surely = c.surely || old.surely
	c.on = append(slices.Clone(old.on), c.on...)
	slices.Sort(c.on)
	c.on = slices.Compact(c.on)
	if c.surely {
		c.on = nil
	}
	if c.surely || len(c.on) > 0 {
		w.faults[k] = c
	}
}

// needs tells of a fault if one of some variables has no value.
func (w *walker) needs(code api.Errno, variables ...int) {
	w.add(w.key(code), condition{on: variables}.in(w.now, code))
}

// assigns tells of a fault if a variable may have been assigned.
func (w *walker) assigns(variable int) {
	w.add(w.key(ErrSet), condition{on: []int{variable}}.in(w.now, ErrSet))
}

// in returns what a condition is in a state.
func (c condition) in(s *state, code api.Errno) condition {
	out := condition{surely: c.surely}
	for _, i := range c.on {
		sure, kept := has(s.value.sure, i), has(s.value.kept, i)
		if code == ErrSet {
			kept = has(s.assigned.kept, i)
			sure = !has(s.assigned.sure, i) && !kept
		}
		if kept {
			out.on = append(out.on, i)
		} else if !sure {
			out.surely = true
		}
	}
	return out
}

// apart looks at a part by itself, whatever it is entered with.
func (w *walker) apart(run func()) frame {
	outer := w.frame
	w.frame = frame{now: entry(w.words()), faults: map[key]condition{}}
	run()
	part := w.frame
	w.frame = outer
	return part
}

// enter enters a part that was looked at by itself, and returns the state at its end.
func (w *walker) enter(part frame, s *state) *state {
	if s == nil {
		return nil
	}
	for k, c := range part.faults {
		w.add(k, c.in(s, k.code))
	}
	mine, theirs := w.exits.all(), part.exits.all()
	for i, x := range mine {
		*x = join(*x, (*theirs[i]).behind(s))
	}
	w.seen = join(w.seen, part.seen.behind(s))
	return part.now.behind(s)
}
