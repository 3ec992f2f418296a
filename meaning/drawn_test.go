package meaning_test

import (
	"maps"
	"strconv"
	"testing"

	"hackamore/api"
	"hackamore/draw"
	"hackamore/exprs"
	"hackamore/meaning"
	"hackamore/notation"
	"hackamore/subtype"
	"hackamore/world"
)

// drawn is a drawn program that the checker takes, with a script.
type drawn struct {
	seed   uint64
	p      []api.Entity
	script []int
}

// programs hands on drawn programs, but those that assign a variable whose declaration may have been passed: of these the checker
// asks no more than that it stands ahead, so that they may be stuck.
func programs(n uint64) func(yield func(drawn) bool) {
	return func(yield func(drawn) bool) {
		for seed := range n {
			m := draw.New(seed)
			d := drawn{seed: seed, p: m.Core()}
			for range m.Below(40) {
				d.script = append(d.script, m.Below(1000)-500)
			}
			if isScoped(d.p) && !yield(d) {
				return
			}
		}
	}
}

// isScoped reports whether all variables that are assigned were declared where nothing passes the declaration.
func isScoped(p []api.Entity) bool {
	for _, x := range p {
		for _, m := range x.Methods {
			known := map[string]bool{}
			for _, a := range m.Params {
				known[a.Name] = true
			}
			if !scoped(m.Body, known) {
				return false
			}
		}
	}
	return true
}

func scoped(x api.Expr, known map[string]bool) bool {
	first := map[int]int{api.OpIf: 1, api.OpWhile: 1, api.OpMatch: 1}
	kept, branches := first[x.Op]
	for i, k := range x.Kids {
		inner := known
		if branches && i >= kept || x.Op == api.OpTry {
			inner = maps.Clone(known)
		}
		if k.Op == api.OpCase {
			inner[k.Text] = true
		}
		if !scoped(k, inner) {
			return false
		}
	}
	if x.Op == api.OpVar || x.Op == api.OpLet {
		known[x.Text] = true
	}
	return x.Op != api.OpAssign || known[x.Text]
}

// isClear reports whether no union in the type of a field or a parameter has two alternatives that may be of one object with
// different capabilities.
func isClear(p []api.Entity) bool {
	for _, x := range p {
		for _, f := range x.Fields {
			if !clear(p, f.Type) {
				return false
			}
		}
		for _, m := range x.Methods {
			for _, a := range m.Params {
				if !clear(p, a.Type) {
					return false
				}
			}
		}
	}
	return true
}

func clear(p []api.Entity, t api.Type) bool {
	for i, a := range t.Args {
		if !clear(p, a) {
			return false
		}
		for _, b := range t.Args[:i] {
			if t.Kind == api.TypeUnion && mayBeOne(p, a, b) {
				return false
			}
		}
	}
	return true
}

func mayBeOne(p []api.Entity, a, b api.Type) bool {
	if a.Kind != api.TypeName || b.Kind != api.TypeName {
		return a.Kind == b.Kind || a.Kind == api.TypeBoth || b.Kind == api.TypeBoth
	}
	open := func(t api.Type) bool {
		i, e := subtype.Find(p, t.Name)
		return e == api.OK && (p[i].Kind == api.Trait || p[i].Kind == api.Interface)
	}
	return (a.Name == b.Name || open(a) || open(b)) && a.Cap != b.Cap
}

// TestChecked is P18.5 and P18.6: a program that the checker takes is never stuck, its steps do what a step may, and there is no race.
func TestChecked(t *testing.T) {
	ends, looked := map[api.Errno]int{}, 0
	for d := range programs(350) {
		w, e := world.New(d.p, []string{"a", "b"})
		if e != api.OK {
			t.Fatalf("seed %d: New: error %d", d.seed, e)
		}
		clear, fuel := isClear(d.p), 700
		for i := 0; ; i++ {
			choice := 0
			if i < len(d.script) {
				choice = d.script[i]
			}
			before := w.State()
			n, _ := w.Choose(choice)
			used, end, ok := meaning.Step(w, choice, fuel)
			if used > fuel || end.Kind == meaning.Stuck {
				t.Fatalf("seed %d: a step uses %d of %d, and ends by %v", d.seed, used, fuel, end)
			}
			fuel -= used
			if ok && used > 0 {
				checkStep(t, d.seed, before, w.State(), n)
			}
			if a, b, race := w.Race(); race && clear {
				t.Fatalf("seed %d: %v and %v", d.seed, a, b)
			}
			if clear {
				looked++
			}
			if !ok || end.Kind == meaning.Fuel {
				ends[end.Code]++
				break
			}
		}
		if e := world.Check(w.State()); e != api.OK {
			t.Fatalf("seed %d: the state has the error %d", d.seed, e)
		}
	}
	if ends[api.OK] < 25 || looked < 300 {
		t.Errorf("ends by codes %v, %d steps without a race", ends, looked)
	}
}

// checkStep is P18.5 for a step of an actor.
func checkStep(t *testing.T, seed uint64, before, after world.State, n int) {
	t.Helper()
	for i, a := range before.Actors {
		b := after.Actors[i]
		mail := a.Mail
		if i == n {
			mail = mail[1:]
		} else if told(a.Fields) != told(b.Fields) {
			t.Fatalf("seed %d: a step of %d changes the fields of %d", seed, n, i)
		}
		if len(b.Mail) < len(mail) || told(b.Mail[:len(mail)]) != told(mail) {
			t.Fatalf("seed %d: a step of %d changes the mail of %d", seed, n, i)
		}
		for _, m := range b.Mail[len(mail):] {
			if m.From != n {
				t.Fatalf("seed %d: a step of %d sends from %d", seed, n, m.From)
			}
		}
	}
}

// TestMoreFuel is P18.2: a run that does not end by fuel ends alike with more of it.
func TestMoreFuel(t *testing.T) {
	ended := 0
	for d := range programs(140) {
		for _, fuel := range []int{60, 400} {
			s, end := meaning.Run(d.p, nil, d.script, fuel)
			more, other := meaning.Run(d.p, nil, d.script, fuel+500)
			if end.Code == api.ErrSteps {
				continue
			}
			ended++
			if end != other || told(s) != told(more) {
				t.Fatalf("seed %d: with the fuel %d it ends by %v, with more by %v", d.seed, fuel, end, other)
			}
		}
	}
	if ended < 15 {
		t.Errorf("%d runs end", ended)
	}
}

// TestScripts is P18.3: a script that chooses the same actors has the same run, and numbers behind the end change nothing.
func TestScripts(t *testing.T) {
	for d := range programs(80) {
		w, _ := world.New(d.p, nil)
		var script []int
		steps := 0
		for fuel := 400; ; steps++ {
			choice := 0
			if steps < len(d.script) {
				choice = d.script[steps]
			}
			n := len(w.Ready())
			used, end, ok := meaning.Step(w, choice, fuel)
			if !ok {
				break
			}
			script = append(script, choice+n*((choice%5)-2))
			if fuel -= used; end.Kind != meaning.Rest {
				break
			}
		}
		s, end := meaning.Run(d.p, nil, d.script, 400)
		other, otherEnd := meaning.Run(d.p, nil, append(script, 3, 4, 5), 400)
		if end != otherEnd || told(s) != told(other) || told(s) != told(w.State()) {
			t.Fatalf("seed %d: %v ends by %v, %v by %v", d.seed, d.script, end, script, otherEnd)
		}
	}
}

// writer draws expressions that are often wrong.
type writer struct{ *draw.Maker }

func (d writer) name() string { return draw.One(d.Maker, "x", "y", "z", "v") }

func (d writer) kids(n, depth int) []api.Expr {
	var l []api.Expr
	for range n {
		l = append(l, d.expr(depth-1))
	}
	return l
}

// maybe returns an expression, or none.
func (d writer) maybe(depth int) api.Expr {
	if d.Below(3) == 0 {
		return api.Expr{}
	}
	return d.expr(depth)
}

// condition returns an expression that most often is a Bool.
func (d writer) condition(depth int) api.Expr {
	return draw.One(d.Maker, notation.Expr("lit.true{Bool val}"), notation.Expr("lit.false{Bool val}"), notation.Expr("(call.lt local.n lit.4{U32 val})"), notation.Expr("(is local.x local.y)"), d.expr(depth-1))
}

func (d writer) expr(depth int) api.Expr {
	if depth <= 0 {
		return d.leaf()
	}
	switch d.Below(16) {
	case 0, 1, 2:
		return api.Expr{Op: api.OpSeq, Kids: d.kids(d.Below(4), depth)}
	case 3:
		return api.Expr{Op: api.OpIf, Kids: []api.Expr{d.condition(depth), d.expr(depth - 1), d.maybe(depth - 1)}}
	case 4:
		return api.Expr{Op: api.OpWhile, Kids: []api.Expr{d.condition(depth), {Op: api.OpSeq, Kids: []api.Expr{notation.Expr("(assign.n (call.add local.n lit.1{U32 val}))"), d.expr(depth - 1)}}, d.maybe(depth - 1)}}
	case 5:
		x := api.Expr{Op: api.OpMatch, Kids: d.kids(1, depth)}
		for range 1 + d.Below(2) {
			x.Kids = append(x.Kids, api.Expr{Op: api.OpCase, Text: draw.One(d.Maker, "", d.name()), Types: notation.Types(draw.One(d.Maker, "U32 val", "(None val | Bool val)", "main.C ref")), Kids: []api.Expr{{}, d.expr(depth - 1)}})
		}
		return x
	case 6, 7:
		return api.Expr{Op: api.OpTry, Kids: []api.Expr{d.expr(depth - 1), d.maybe(depth - 1), d.maybe(depth - 1)}}
	case 8, 9:
		return api.Expr{Op: draw.One(d.Maker, api.OpVar, api.OpLet), Text: d.name(), Types: notation.Types("U32 val"), Kids: d.kids(d.Below(2), depth)}
	case 10:
		return api.Expr{Op: api.OpAssign, Text: d.name(), Kids: d.kids(1, depth)}
	case 11:
		return api.Expr{Op: api.OpReturn, Kids: d.kids(d.Below(2), depth)}
	case 12:
		return api.Expr{Op: api.OpCall, Text: draw.One(d.Maker, "fails", "get", "put", "own"), Kids: append([]api.Expr{{Op: api.OpThis}}, d.kids(d.Below(2), depth)...)}
	case 13:
		return api.Expr{Op: api.OpTuple, Kids: d.kids(2, depth)}
	case 14:
		return api.Expr{Op: api.OpSet, Text: "n", Kids: append([]api.Expr{{Op: api.OpThis}}, d.kids(1, depth)...)}
	}
	return d.leaf()
}

func (d writer) leaf() api.Expr {
	switch d.Below(10) {
	case 0:
		return api.Expr{Op: api.OpError}
	case 1:
		return api.Expr{Op: draw.One(d.Maker, api.OpBreak, api.OpContinue)}
	case 2:
		return api.Expr{Op: api.OpThis}
	case 3, 4, 5:
		return api.Expr{Op: draw.One(d.Maker, api.OpLocal, api.OpLocal, api.OpConsume), Text: d.name()}
	}
	return api.Expr{Op: api.OpLit, Text: strconv.Itoa(d.Below(9)), Types: notation.Types("U32 val")}
}

// start are the locals of drawn expressions.
func start() []meaning.Local {
	return []meaning.Local{{Name: "n", Value: number(0)}, {Name: "k", Value: number(0)}, {Name: "x", Value: number(1)}, {Name: "y", Value: tuple(number(1), truth(1))}, {Name: "z"}}
}

// TestEvaluations is P18.2 and P18.4 for drawn expressions.
func TestEvaluations(t *testing.T) {
	seen := map[int]int{}
	for seed := range uint64(1500) {
		d := writer{draw.New(seed)}
		x := d.expr(4)
		o := meaning.Eval(made(t), 1, object(2), x, start(), 300)
		seen[o.Kind]++
		if o.Used > 300 || o.Kind == meaning.Empty && o.Code == api.ErrSteps && o.Used != 300 || o.Kind != meaning.Value && o.Kind != meaning.Return && told(o.Value) != told(api.Value{}) || (o.Code != api.OK) != (o.Kind == meaning.Empty || o.Kind == meaning.Wrong) {
			t.Fatalf("seed %d: %s", seed, told(o))
		}
		less := meaning.Eval(made(t), 1, object(2), x, start(), o.Used)
		if o.Kind != meaning.Empty && told(o) != told(less) {
			t.Fatalf("seed %d: with just the fuel that it uses it is %s", seed, brief(less))
		}
		if o.Kind != meaning.Empty && o.Used > 0 {
			if less = meaning.Eval(made(t), 1, object(2), x, start(), o.Used-1); brief(less) != "empty 10, "+strconv.Itoa(o.Used-1) {
				t.Fatalf("seed %d: with less fuel it is %s", seed, brief(less))
			}
		}
		checkNames(t, seed, x, o.Locals)
		checkThen(t, seed, x, o)
	}
	for kind, name := range kinds {
		if seen[kind] < 10 {
			t.Errorf("the outcome %s comes %d times", name, seen[kind])
		}
	}
}

// checkNames is P18.4: what an expression does not name has its value behind it.
func checkNames(t *testing.T, seed uint64, x api.Expr, l []meaning.Local) {
	t.Helper()
	named := map[string]bool{}
	for k := range exprs.Nodes(x) {
		switch k.Op {
		case api.OpVar, api.OpLet, api.OpAssign, api.OpConsume, api.OpCase:
			named[k.Text] = true
		}
	}
	met := map[string]bool{}
	for i, v := range l {
		if met[v.Name] || i >= len(start()) && !named[v.Name] || i < len(start()) && !named[v.Name] && told(v) != told(start()[i]) {
			t.Fatalf("seed %d: the locals are %s", seed, told(l))
		}
		met[v.Name] = true
	}
}

// checkThen is P18.4: the third Kid of an OpTry is evaluated once, unless the outcome ahead is Empty or Wrong.
func checkThen(t *testing.T, seed uint64, x api.Expr, o meaning.Outcome) {
	t.Helper()
	second := notation.Expr("(return lit.3{U32 val})")
	count := notation.Expr("(assign.k (call.add local.k lit.1{U32 val}))")
	got := meaning.Eval(made(t), 1, object(2), api.Expr{Op: api.OpTry, Kids: []api.Expr{x, second, count}}, start(), 400)
	want, times := o.Kind, uint64(1)
	switch o.Kind {
	case meaning.Error:
		want = meaning.Return
	case meaning.Empty, meaning.Wrong:
		times = 0
	}
	if o.Kind != meaning.Empty && (got.Kind != want || got.Locals[1].Value.Lo != times) || o.Kind == meaning.Empty && got.Locals[1].Value.Lo > 1 {
		t.Fatalf("seed %d: behind %s the count is %d, and the outcome %s", seed, brief(o), got.Locals[1].Value.Lo, brief(got))
	}
}

// TestGarbage is P1 and P2 for programs that no checker would take: nothing panics, what is done twice is the same, and the state that
// is left is right.
func TestGarbage(t *testing.T) {
	ends := map[int]int{}
	for seed := range uint64(200) {
		d := writer{draw.New(seed)}
		p := program("")
		for i, x := range p {
			for j, m := range x.Methods {
				if x.Name[0] == 'm' && d.Below(2) == 0 {
					p[i].Methods[j].Body = api.Expr{Op: api.OpSeq, Kids: append(d.kids(2, 4), m.Body)}
				}
				if d.Below(20) == 0 {
					p[i].Methods[j].Kind = d.Below(5)
				}
			}
			if x.Name == "main.Main" {
				p[i].Methods[0].Body.Kids = append(p[i].Methods[0].Body.Kids, notation.Expr("(call.once (new.create{main.A tag} lit.1{U32 val}) lit.2{U32 val})"))
			}
		}
		s, end := meaning.Run(p, []string{"a"}, []int{d.Below(9), d.Below(9)}, 200)
		again, other := meaning.Run(p, []string{"a"}, []int{0, 0}, 200)
		third, _ := meaning.Run(p, []string{"a"}, []int{0, 0}, 200)
		if told(again) != told(third) || other.Kind < meaning.Rest || other.Kind > meaning.Stuck {
			t.Fatalf("seed %d: two runs differ", seed)
		}
		if e := world.Check(s); e != api.OK && end.Actor >= 0 {
			t.Fatalf("seed %d: the state has the error %d", seed, e)
		}
		ends[end.Kind]++
	}
	if ends[meaning.Rest] == 0 || ends[meaning.Stuck] == 0 {
		t.Errorf("runs end by %v", ends)
	}
}
