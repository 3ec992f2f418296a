package flow_test

import (
	"cmp"
	"maps"
	"slices"
	"testing"

	"hackamore/api"
	"hackamore/draw"
	"hackamore/flow"
)

// The runner runs a body once, by choices of all conditions, guards, cases and errors, and notes what is wrong on its way. What
// all runs note together is what Check has to tell.

type outcome int

const (
	ends outcome = iota
	errors
	returns
	breaks
	continues
	stuck
)

// has says of a variable whether it has a value, and whether it was assigned.
type has struct{ value, assigned bool }

type runner struct {
	method  api.Method
	body    api.Expr
	raising map[string]bool
	lets    map[string]bool
	locals  map[string]has
	fields  map[string]has
	choices []int // those to make, then those that were made
	options []int
	at      int
	steps   int
	cut     bool // the run was too long
	notes   *notes
}

// notes is what all runs tell together.
type notes struct {
	faults  map[string]flow.Fault
	reached map[string]bool // nodes
	ended   map[string]bool // nodes whose end was reached
	again   map[string]bool // loops whose condition was reached again
	errors  bool
	exits   []map[string]has // fields at the ends
}

func text(path []int) string {
	s := ""
	for _, i := range path {
		s += string(rune(i + 1))
	}
	return s
}

func (r *runner) choose(n int) int {
	r.steps++
	if r.at == len(r.choices) {
		r.choices = append(r.choices, 0)
	}
	if r.at == len(r.options) {
		r.options = append(r.options, n)
	}
	r.options[r.at] = n
	r.at++
	return r.choices[r.at-1]
}

func (r *runner) fault(code api.Errno, path []int) {
	r.notes.faults[text(path)+code.Error()+"!"] = flow.Fault{Code: code, Path: slices.Clone(path)}
}

func (r *runner) kid(x api.Expr, i int, path []int, used, looped, caught bool) outcome {
	return r.run(x.Kids[i], append(path[:len(path):len(path)], i), used, looped, caught)
}

func (r *runner) isNew() bool { return r.method.Kind == api.New }

func (r *runner) unset() bool { return r.isNew() && !(r.fields["x"].value && r.fields["y"].value) }

func (r *runner) run(x api.Expr, path []int, used, looped, caught bool) outcome {
	if x.Op == 0 {
		return ends
	}
	r.notes.reached[text(path)] = true
	o := r.does(x, path, used, looped, caught)
	if o == ends {
		r.notes.ended[text(path)] = true
	}
	return o
}

func (r *runner) does(x api.Expr, path []int, used, looped, caught bool) outcome {
	if r.steps > 40 {
		r.cut = true
		return stuck
	}
	kid := func(i int, used bool) outcome { return r.kid(x, i, path, used, looped, caught) }
	raise := func() outcome {
		if !caught && !r.method.Partial {
			r.fault(flow.ErrPartial, path)
		}
		return errors
	}
	switch x.Op {
	case api.OpLocal, api.OpConsume:
		v := r.locals[x.Text]
		if !v.value {
			r.fault(flow.ErrUnset, path)
		}
		if x.Op == api.OpConsume {
			v.value = false
		}
		r.locals[x.Text] = v
	case api.OpThis:
		if r.unset() {
			r.fault(flow.ErrField, path)
		}
	case api.OpVar, api.OpLet:
		if len(x.Kids) == 0 {
			r.locals[x.Text] = has{}
			break
		}
		if o := kid(0, true); o != ends {
			return o
		}
		r.locals[x.Text] = has{true, true}
	case api.OpAssign:
		if o := kid(0, true); o != ends {
			return o
		}
		v := r.locals[x.Text]
		if used && !v.value {
			r.fault(flow.ErrUnset, path)
		}
		if r.lets[x.Text] && v.assigned {
			r.fault(flow.ErrSet, path)
		}
		r.locals[x.Text] = has{true, true}
	case api.OpGet, api.OpSet:
		return r.field(x, path, used, looped, caught)
	case api.OpSeq:
		for i := range x.Kids {
			if o := kid(i, used && i == len(x.Kids)-1); o != ends {
				return o
			}
		}
	case api.OpIf:
		if o := kid(0, true); o != ends {
			return o
		}
		return kid(1+r.choose(2), used)
	case api.OpWhile:
		return r.loop(x, path, used, looped, caught)
	case api.OpMatch:
		return r.match(x, path, used, looped, caught)
	case api.OpTry:
		return r.try(x, path, used, looped, caught)
	case api.OpError:
		return raise()
	case api.OpReturn:
		if len(x.Kids) > 0 {
			if o := kid(0, r.method.Kind == api.Fun); o != ends {
				return o
			}
		}
		if r.unset() {
			r.fault(flow.ErrField, path)
		}
		return returns
	case api.OpBreak, api.OpContinue:
		if !looped {
			r.fault(flow.ErrLoop, path)
			return stuck
		}
		if x.Op == api.OpBreak {
			return breaks
		}
		return continues
	case api.OpRecover:
		return kid(0, used)
	default:
		for i := range x.Kids {
			if o := kid(i, true); o != ends {
				return o
			}
		}
		if x.Op == api.OpCall && r.raising[text(path)] && r.choose(2) == 1 {
			return raise()
		}
	}
	return ends
}

func (r *runner) field(x api.Expr, path []int, used, looped, caught bool) outcome {
	own := x.Kids[0].Op == api.OpThis
	if !own {
		if o := r.kid(x, 0, path, true, looped, caught); o != ends {
			return o
		}
	} else {
		r.notes.reached[text(append(path[:len(path):len(path)], 0))] = true
	}
	if x.Op == api.OpSet {
		if o := r.kid(x, 1, path, true, looped, caught); o != ends {
			return o
		}
	}
	if !own || x.Text == "z" {
		return ends
	}
	v := r.fields[x.Text]
	if r.isNew() && !v.value && (x.Op == api.OpGet || used) {
		r.fault(flow.ErrUnset, path)
	}
	if x.Op == api.OpGet {
		return ends
	}
	if x.Text == "y" && (!r.isNew() || v.assigned) {
		r.fault(flow.ErrSet, path)
	}
	if r.isNew() {
		r.fields[x.Text] = has{true, true}
	}
	return ends
}

func (r *runner) loop(x api.Expr, path []int, used, looped, caught bool) outcome {
	for range 4 {
		o := r.kid(x, 0, path, true, true, caught)
		if o == continues {
			continue
		}
		if o == breaks {
			return ends
		}
		if o != ends {
			return o
		}
		ways := 2
		if r.notes.again[text(path)] {
			ways = 3
		}
		switch r.choose(ways) {
		case 1:
			return r.kid(x, 2, path, used, looped, caught)
		case 2:
			return ends
		}
		o = r.kid(x, 1, path, used, true, caught)
		if o == breaks {
			return ends
		}
		if o != ends && o != continues {
			return o
		}
		r.notes.again[text(path)] = true
	}
	r.steps = 1000
	return stuck
}

func (r *runner) match(x api.Expr, path []int, used, looped, caught bool) outcome {
	if o := r.kid(x, 0, path, true, looped, caught); o != ends {
		return o
	}
	for i := 1; i < len(x.Kids); i++ {
		c, at := x.Kids[i], append(path[:len(path):len(path)], i)
		r.notes.reached[text(at)] = true
		behind := func() {
			if c.Text != "" {
				r.locals[c.Text] = has{false, true}
			}
		}
		if r.choose(2) == 1 {
			behind()
			continue
		}
		if c.Text != "" {
			r.locals[c.Text] = has{true, true}
		}
		if c.Kids[0].Op != 0 {
			if o := r.kid(c, 0, at, true, looped, caught); o != ends {
				return o
			}
			if r.choose(2) == 1 {
				behind()
				continue
			}
		}
		o := r.kid(c, 1, at, used, looped, caught)
		if o == ends && c.Text != "" {
			v := r.locals[c.Text]
			v.value = false
			r.locals[c.Text] = v
		}
		return o
	}
	return ends
}

func (r *runner) try(x api.Expr, path []int, used, looped, caught bool) outcome {
	o := r.kid(x, 0, path, used, looped, true)
	if o == errors {
		o = r.kid(x, 1, path, used, looped, caught)
	}
	if o == stuck {
		return o
	}
	if last := r.kid(x, 2, path, false, looped, caught); last != ends {
		return last
	}
	return o
}

// all runs a method by all choices, and reports whether no run was cut.
func all(m api.Method, raising map[string]bool) (*notes, bool) {
	n := &notes{faults: map[string]flow.Fault{}, reached: map[string]bool{}, ended: map[string]bool{}, again: map[string]bool{}}
	lets := map[string]bool{"p": true, "q": true}
	var find func(x api.Expr)
	find = func(x api.Expr) {
		if x.Op == api.OpLet || x.Op == api.OpCase && x.Text != "" {
			lets[x.Text] = true
		}
		for _, k := range x.Kids {
			find(k)
		}
	}
	find(m.Body)
	for known := -1; known != len(n.again); {
		known = len(n.again)
		var choices, options []int
		for runs := 0; ; runs++ {
			if runs > 800 {
				return n, false
			}
			r := &runner{method: m, body: m.Body, raising: raising, lets: lets, choices: choices, options: options, notes: n}
			r.locals = map[string]has{"p": {true, true}, "q": {true, true}}
			r.fields = map[string]has{}
			r.whole()
			if r.cut {
				return n, false
			}
			choices, options = r.choices[:r.at], r.options[:r.at]
			for len(choices) > 0 && choices[len(choices)-1] == options[len(choices)-1]-1 {
				choices = choices[:len(choices)-1]
				options = options[:len(choices)]
			}
			if len(choices) == 0 {
				break
			}
			choices[len(choices)-1]++
		}
	}
	return n, true
}

func (r *runner) whole() {
	switch o := r.run(r.body, nil, r.method.Kind == api.Fun, false, false); o {
	case errors:
		r.notes.errors = true
	case ends, returns:
		if o == ends && r.unset() {
			r.fault(flow.ErrField, nil)
		}
		r.notes.exits = append(r.notes.exits, maps.Clone(r.fields))
	}
}

// report returns the report that the notes make.
func (n *notes) report(m api.Method) flow.Report {
	r := flow.Report{Errors: n.errors, Ends: len(n.exits) > 0}
	var dead func(x api.Expr, path []int)
	dead = func(x api.Expr, path []int) {
		for i, k := range x.Kids {
			at := append(path[:len(path):len(path)], i)
			if x.Op == api.OpSeq && i+1 < len(x.Kids) && n.reached[text(at)] && !n.ended[text(at)] {
				last := append(path[:len(path):len(path)], i+1)
				n.faults[text(last)+"dead"] = flow.Fault{Code: flow.ErrDead, Path: last}
			}
			dead(k, at)
		}
	}
	dead(m.Body, nil)
	if m.Partial && !n.errors {
		n.faults["partial"] = flow.Fault{Code: flow.ErrPartial}
	}
	for _, f := range n.faults {
		r.Faults = append(r.Faults, f)
	}
	slices.SortFunc(r.Faults, func(a, b flow.Fault) int {
		return cmp.Or(slices.Compare(a.Path, b.Path), cmp.Compare(a.Code, b.Code))
	})
	for _, name := range []string{"x", "y"} {
		if m.Kind == api.New && r.Ends && !slices.ContainsFunc(n.exits, func(f map[string]has) bool { return !f[name].value }) {
			r.Fields = append(r.Fields, name)
		}
	}
	return r
}

// raisingCalls returns some of the paths of calls.
func raisingCalls(m *draw.Maker, x api.Expr, path []int) [][]int {
	var l [][]int
	if x.Op == api.OpCall && m.Below(2) == 0 {
		l = append(l, slices.Clone(path))
	}
	for i, k := range x.Kids {
		l = append(l, raisingCalls(m, k, append(path[:len(path):len(path)], i))...)
	}
	return l
}

// TestRuns is P11.1 and P11.2: Check tells what some run of a body does wrong, and nothing else.
func TestRuns(t *testing.T) {
	compared, faulty := 0, 0
	for seed := range uint64(6000) {
		m := draw.New(seed)
		kind, partial := draw.One(m, api.Fun, api.New, api.New, api.Be), m.Below(3) == 0
		e := entity(kind, partial, m.Flow(2+m.Below(4)))
		body := e.Methods[1].Body
		l := raisingCalls(m, body, nil)
		raising := map[string]bool{}
		for _, path := range l {
			raising[text(path)] = true
		}
		n, ok := all(e.Methods[1], raising)
		if !ok {
			continue
		}
		compared++
		want := showReport(n.report(e.Methods[1]))
		r, code := flow.Check(e, 1, l)
		if got := showReport(r); code != api.OK || got != want {
			t.Fatalf("seed %d, kind %d, %v, %v:\n%s\nCheck: %s, error %d\nruns:  %s", seed, kind, partial, l, show(body), got, code, want)
		}
		if len(r.Faults) > 0 {
			faulty++
		}
	}
	if compared < 3000 || faulty < 1500 || compared-faulty < 150 {
		t.Errorf("%d bodies are compared, %d have faults", compared, faulty)
	}
}

// checked returns the report of a body.
func checked(t *testing.T, kind int, partial bool, x api.Expr, l [][]int) flow.Report {
	t.Helper()
	r, e := flow.Check(entity(kind, partial, x), 1, l)
	if e != api.OK {
		t.Fatalf("%s: error %d", show(x), e)
	}
	return r
}

func codes(r flow.Report, code api.Errno) []string {
	var l []string
	for _, f := range r.Faults {
		if f.Code == code {
			l = append(l, text(f.Path))
		}
	}
	return l
}

// renamed returns a body with other names for its locals, but for parameters.
func renamed(x api.Expr) api.Expr {
	switch x.Op {
	case api.OpLocal, api.OpConsume, api.OpAssign, api.OpVar, api.OpLet, api.OpCase:
		if x.Text == "a" || x.Text == "b" || x.Text == "c" {
			x.Text = map[string]string{"a": "zz", "b": "c", "c": "a"}[x.Text]
		}
	}
	x.Kids = slices.Clone(x.Kids)
	for i, k := range x.Kids {
		x.Kids[i] = renamed(k)
	}
	return x
}

// TestMore is P11.3 to P11.5 for drawn bodies.
func TestMore(t *testing.T) {
	valued := 0
	for seed := range uint64(3000) {
		m := draw.New(seed)
		kind, partial := draw.One(m, api.Fun, api.New, api.Be), m.Below(2) == 0
		x := m.Flow(2 + m.Below(4))
		l := raisingCalls(m, x, nil)
		r := checked(t, kind, partial, x, l)
		if again := checked(t, kind, partial, x, l); showReport(again) != showReport(r) {
			t.Fatalf("%s: %s, then %s", show(x), showReport(r), showReport(again))
		}
		if other := checked(t, kind, partial, renamed(x), l); showReport(other) != showReport(r) {
			t.Fatalf("%s: %s, renamed %s", show(x), showReport(r), showReport(other))
		}
		e := entity(kind, partial, x)
		e.Methods[1].Params = append(e.Methods[1].Params, api.Param{Name: "z"})
		more, _ := flow.Check(e, 1, l)
		for _, s := range codes(more, flow.ErrUnset) {
			if !slices.Contains(codes(r, flow.ErrUnset), s) {
				t.Fatalf("%s: with a parameter more: %s", show(x), showReport(more))
			}
		}
		one := checked(t, kind, partial, api.Expr{Op: api.OpSeq, Kids: []api.Expr{x}}, prefixed(l))
		if one.Errors != r.Errors || one.Ends != r.Ends || !slices.Equal(one.Fields, r.Fields) || len(one.Faults) < len(r.Faults) {
			t.Fatalf("%s: %s, in an OpSeq %s", show(x), showReport(r), showReport(one))
		}
		if len(codes(r, flow.ErrLoop)) == 0 {
			inLoop(t, x)
		}
		fewer := checked(t, kind, partial, x, l[:len(l)/2])
		if fewer.Errors && !r.Errors || len(codes(fewer, flow.ErrDead)) < len(codes(r, flow.ErrDead)) {
			t.Fatalf("%s: %s, with fewer partial calls %s", show(x), showReport(r), showReport(fewer))
		}
		valued += tried(t, x)
	}
	if valued < 100 {
		t.Errorf("%d bodies give locals a value", valued)
	}
}

// prefixed returns paths below the first Kid of something.
func prefixed(l [][]int) [][]int {
	var out [][]int
	for _, path := range l {
		out = append(out, append([]int{0}, path...))
	}
	return out
}

// inLoop is P11.5: a body has no fault that it has not as that of a loop.
func inLoop(t *testing.T, x api.Expr) {
	t.Helper()
	loop := api.Expr{Op: api.OpWhile, Kids: []api.Expr{{Op: api.OpLit}, x, {}}}
	r, in := checked(t, api.Fun, false, x, nil), checked(t, api.Fun, false, loop, nil)
	for _, f := range r.Faults {
		if f.Code != flow.ErrField && !slices.Contains(codes(in, f.Code), text(append([]int{1}, f.Path...))) {
			t.Fatalf("%s: %s, in a loop %s", show(x), showReport(r), showReport(in))
		}
	}
}

// tried is P11.5: what has a value behind a body has one behind an OpTry of it without errors.
func tried(t *testing.T, x api.Expr) int {
	t.Helper()
	lit := api.Expr{Op: api.OpLit}
	if r := checked(t, api.Fun, true, x, nil); r.Errors {
		return 0
	}
	try := api.Expr{Op: api.OpTry, Kids: []api.Expr{x, lit, {}}}
	plain, e := flow.Valued(api.Expr{Op: api.OpSeq, Kids: []api.Expr{x, lit}}, []string{"p"}, []int{1})
	behind, e2 := flow.Valued(api.Expr{Op: api.OpSeq, Kids: []api.Expr{try, lit}}, []string{"p"}, []int{1})
	if e != e2 || !slices.Equal(plain, behind) {
		t.Fatalf("%s: %v, behind an OpTry %v, errors %d, %d", show(x), plain, behind, e, e2)
	}
	return len(plain) / 2
}

// TestDeep is P11.1 for loops and tries within one another, as many as there may be.
func TestDeep(t *testing.T) {
	lit, local := api.Expr{Op: api.OpLit}, api.Expr{Op: api.OpLocal, Text: "a"}
	of := func(op int, kids ...api.Expr) api.Expr { return api.Expr{Op: op, Kids: kids} }
	consume := api.Expr{Op: api.OpConsume, Text: "a"}
	loops, tries := consume, of(api.OpSeq, of(api.OpCall, local), consume)
	for range 96 {
		loops = of(api.OpWhile, lit, loops, local)
		tries = of(api.OpTry, of(api.OpIf, lit, of(api.OpReturn), of(api.OpIf, lit, of(api.OpError), api.Expr{})), of(api.OpError), tries)
	}
	body := func(x api.Expr) api.Expr {
		return of(api.OpSeq, api.Expr{Op: api.OpVar, Text: "a", Kids: []api.Expr{lit}}, x)
	}
	if r := checked(t, api.Fun, false, body(loops), nil); len(codes(r, flow.ErrUnset)) != 97 {
		t.Errorf("loops: %s", showReport(r))
	}
	if r := checked(t, api.Fun, true, body(tries), nil); showReport(r) != "errors; ends" {
		t.Errorf("tries: %s", showReport(r))
	}
	many := of(api.OpSeq)
	for i := range 1300 {
		name := "v" + string(rune(0x4e00+i))
		many.Kids = append(many.Kids, api.Expr{Op: api.OpVar, Text: name, Kids: []api.Expr{lit}}, api.Expr{Op: api.OpLocal, Text: name})
	}
	r := checked(t, api.Fun, false, of(api.OpWhile, lit, many, api.Expr{}), nil)
	if showReport(r) != "ends" {
		t.Errorf("many: %s", showReport(r))
	}
}
