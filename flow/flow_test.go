package flow_test

import (
	"fmt"
	"reflect"
	"slices"
	"strconv"
	"strings"
	"testing"

	"hackamore/api"
	"hackamore/flow"
)

var ops = strings.Fields("none lit local this get set var let assign consume seq if while match case try error return break continue call new recover tuple item is unit")

// read reads an expression as a list: `(op text kids ..)`, a word alone for an operation without Kids, `-` for none; names of
// locals stand behind a dot, as in `local.x`.
func read(t *testing.T, s string) api.Expr {
	t.Helper()
	words := strings.Fields(strings.NewReplacer("(", " ( ", ")", " ) ").Replace(s))
	var expr func() api.Expr
	word := func(s string) api.Expr {
		name, text, _ := strings.Cut(s, ".")
		op := slices.Index(ops, name)
		if op < 0 && s != "-" {
			t.Fatalf("%s is no operation", s)
		}
		return api.Expr{Op: max(op, 0), Text: text}
	}
	expr = func() api.Expr {
		w := words[0]
		words = words[1:]
		if w != "(" {
			return word(w)
		}
		x := word(words[0])
		words = words[1:]
		for words[0] != ")" {
			x.Kids = append(x.Kids, expr())
		}
		words = words[1:]
		return x
	}
	x := expr()
	if len(words) > 0 {
		t.Fatalf("%s: %v is left", s, words)
	}
	return x
}

func show(x api.Expr) string {
	out := ops[x.Op]
	if x.Op == 0 {
		return "-"
	}
	if x.Text != "" {
		out += "." + x.Text
	}
	if len(x.Kids) == 0 {
		return out
	}
	for _, k := range x.Kids {
		out += " " + show(k)
	}
	return "(" + out + ")"
}

func showReport(r flow.Report) string {
	var out []string
	for _, f := range r.Faults {
		out = append(out, strings.Trim(fmt.Sprint(f.Path), "[]")+": "+f.Code.Error())
	}
	if r.Errors {
		out = append(out, "errors")
	}
	if r.Ends {
		out = append(out, "ends")
	}
	if len(r.Fields) > 0 {
		out = append(out, strings.Join(r.Fields, " "))
	}
	return strings.Join(out, "; ")
}

// entity returns an entity with fields x (var), y (let) and x again, and a method of a kind with parameters p and q.
func entity(kind int, partial bool, body api.Expr) api.Entity {
	return api.Entity{
		Kind: api.Class, Name: "C",
		Fields:  []api.Field{{Name: "x"}, {Name: "y", Let: true}, {Name: "x", Let: true}},
		Methods: []api.Method{{}, {Kind: kind, Name: "m", Partial: partial, Params: []api.Param{{Name: "p"}, {Name: "q"}}, Body: body}},
	}
}

func paths(t *testing.T, s string) [][]int {
	t.Helper()
	var l [][]int
	for _, part := range strings.Split(s, "; ") {
		var path []int
		for _, w := range strings.Fields(part) {
			n, _ := strconv.Atoi(w)
			path = append(path, n)
		}
		l = append(l, path)
	}
	return l
}

// TestBodies is P11.1 for bodies of functions.
func TestBodies(t *testing.T) {
	for _, x := range []struct{ body, partial, want string }{
		{"(seq var.x (if local.p (assign.x lit) -) local.x)", "", "2: 130; ends"},
		{"(seq var.x (if local.p (assign.x lit) (assign.x lit)) local.x)", "", "ends"},
		{"(seq var.x (if local.p (assign.x lit) (assign.x lit)) local.x lit)", "", "ends"},
		{"(seq (let.x lit) (assign.x lit))", "", "1: 131; ends"},
		{"(seq let.x (assign.x lit) lit)", "", "ends"},
		{"(seq let.x (assign.x lit))", "", "1: 130; ends"},
		{"(seq let.x (assign.x lit) (assign.x lit) lit)", "", "2: 131; ends"},
		{"(assign.p lit)", "", ": 131; ends"}, {"(assign.z lit)", "", ": 130; ends"}, {"(seq (assign.z lit) local.z)", "", "ends"}, {"local.z", "", ": 130; ends"},
		{"(seq (while local.p consume.x -) lit)", "", "0 1: 130; ends"},
		{"(seq (var.x lit) (while local.p consume.x -) lit)", "", "1 1: 130; ends"},
		{"(seq (var.x lit) (while local.p (seq consume.x (assign.x lit) lit) -) local.x)", "", "ends"},
		{"(seq (return lit) lit lit)", "", "1: 135; ends"}, {"(seq error lit)", "", "0: 134; 1: 135; errors"},
		{"(seq consume.p consume.p)", "", "1: 130; ends"}, {"(seq consume.p (if local.p lit lit))", "", "1 0: 130; ends"},
		{"break", "", ": 133"}, {"(while break lit -)", "", "ends"}, {"(while lit (seq break lit) -)", "", "1 1: 135; ends"}, {"(while lit lit break)", "", "2: 133; ends"}, {"(while lit continue continue)", "", "2: 133; ends"},
		{"(while lit (while lit lit break) -)", "", "ends"}, {"(seq (while lit (return lit) (return lit)) lit)", "", "1: 135; ends"}, {"(seq (while lit continue (return lit)) lit)", "", "ends"}, {"(seq (while continue lit (return lit)) lit)", "", "1: 135"},
		{"(seq (while (if lit continue lit) (return lit) (return lit)) lit)", "", "1: 135; ends"},
		{"(seq var.x (while lit (seq (assign.x lit) lit) (seq (assign.x lit) lit)) local.x)", "", "2: 130; ends"},
		{"(seq var.x (while lit (seq (assign.x lit) break) (seq (assign.x lit) lit)) local.x)", "", "ends"},
		{"(seq var.x (while lit (seq (if lit break -) (assign.x lit) lit) (seq (assign.x lit) lit)) local.x)", "", "2: 130; ends"},
		{"(seq (match local.p (case.x - local.x)) local.x)", "", "1: 130; ends"},
		{"(seq (match local.p (case.x local.x (return local.x)) (case - (assign.x lit))) lit)", "", "0 2 1: 131; ends"},
		{"(seq (match local.p (case.x lit (seq (assign.x lit) lit)) (case error lit)) lit)", "", "0 1 1 0: 131; 0 2 0: 134; errors; ends"},
		{"(match local.p (case.p - lit) (case - local.p))", "", "2 1: 130; ends"},
		{"(match (return lit) (case - local.z))", "", "ends"},
		{"(seq var.x (try (seq (assign.x lit) (call.f local.p)) local.x -) lit)", "", "ends"},
		{"(seq var.x (try (seq (call.f local.p) (assign.x lit) lit) local.x -) lit)", "1 0 0", "1 1: 130; ends"},
		{"(seq var.x (try (seq (assign.x lit) (call.f local.p) lit) - -) local.x)", "1 0 1", "ends"},
		{"(seq var.x (try (seq (call.f local.p) (assign.x lit) lit) - (seq (assign.x lit) lit)) local.x)", "1 0 0", "ends"},
		{"(seq (let.x lit) (try (call.f local.p) error local.x) local.x)", "1 0", "1 1: 134; errors; ends"},
		{"(seq (try error lit -) lit)", "", "ends"}, {"(try lit error -)", "", "ends"}, {"(try error error (return lit))", "", "1: 134; ends"}, {"(try (seq lit error) (return local.p) consume.p)", "", "ends"},
		{"(try (return consume.p) - local.p)", "", "2: 130; ends"}, {"(while lit (try break - (seq continue lit)) -)", "", "1 2 1: 135; ends"}, {"(try lit lit error)", "", "2: 134; errors"}, {"(try (try lit lit error) local.p -)", "", "ends"},
		{"(seq (while lit (try (if lit break continue) - (seq var.x (if lit (assign.x lit) -) lit)) -) local.x)", "", "1: 130; ends"},
		{"(try break - local.z)", "", "0: 133"},
		{"(call.f error local.z)", "", "0: 134; errors"}, {"(new.f local.p)", "", "ends"}, {"(new.f local.p)", "; 1; 0; 5 5; -1", ": 134; errors; ends"}, {"(call.f (return lit))", "", "ends"},
		{"(recover (seq (assign.z lit) (assign.z lit)))", "", "ends"},
		{"(tuple (assign.z lit) (assign.z lit))", "", "0: 130; ends"},
		{"(set.x this lit)", "", "ends"}, {"(set.y this lit)", "", ": 131; ends"}, {"(set.y local.p lit)", "", "ends"}, {"(set.z this lit)", "", "ends"}, {"(set.y (return lit) local.z)", "", "ends"}, {"(get.y this)", "", "ends"},
		{"(return (assign.z lit))", "", "0: 130; ends"},
		{"(if (assign.z lit) (if lit (assign.a lit) (assign.b lit)) (match lit (case (assign.c lit) (assign.d lit))))", "", "0: 130; 1 1: 130; 1 2: 130; 2 1 0: 130; 2 1 1: 130; ends"},
		{"(try (assign.a lit) (assign.b lit) (assign.c lit))", "", "0: 130; ends"},
		{"(while (assign.a lit) (assign.b lit) (assign.c lit))", "", "0: 130; 1: 130; 2: 130; ends"},
	} {
		var l [][]int
		if x.partial != "" {
			l = paths(t, x.partial)
		}
		r, e := flow.Check(entity(api.Fun, false, read(t, x.body)), 1, l)
		if got := showReport(r); e != api.OK || got != x.want {
			t.Errorf("%s with %s: %s, error %d, want %s", x.body, x.partial, got, e, x.want)
		}
	}
}

// TestConstructors is P11.1 for constructors, behaviours and partial methods.
func TestConstructors(t *testing.T) {
	for _, x := range []struct {
		kind    int
		partial bool
		body    string
		want    string
	}{
		{api.New, false, "lit", ": 132; ends"},
		{api.New, false, "(seq (set.x this lit) (set.y this lit) this)", "ends; x y"},
		{api.New, false, "(seq (set.x this lit) this (set.y this lit))", "1: 132; ends; x y"},
		{api.New, false, "(seq (set.x this lit) (if lit (set.y this lit) -))", ": 132; ends; x"},
		{api.New, false, "(seq (set.x this (get.y this)) (set.y this (get.x this)) (set.y this lit))", "0 1: 130; 2: 131; ends; x y"},
		{api.New, false, "(seq (set.x this lit) (set.x this lit) (set.y this this))", "2 1: 132; ends; x y"},
		{api.New, false, "(seq (set.y this lit) (let.a (set.x this lit)) (let.b (set.x this lit)))", "1 0: 130; ends; x y"},
		{api.New, false, "(seq (set.y this lit) (return lit) lit)", "1: 132; 2: 135; ends; y"},
		{api.New, false, "(seq (if lit (return lit) -) (set.x this lit) (set.y this lit))", "0 1: 132; ends"},
		{api.New, false, "(seq (get.z this) (set.z this lit) (call.f this) (get.x (seq this)) (get.z (get.x this)))", ": 132; 2 0: 132; 3 0 0: 132; 4 0: 130; ends"},
		{api.New, false, "(return (set.x this lit))", ": 132; ends; x"},
		{api.New, false, "(try (seq (set.x this lit) error) (set.y this lit) -)", "ends; x y"},
		{api.New, false, "(try (return lit) - (seq (set.x this lit) (set.y this lit)))", "0: 132; ends; x y"},
		{api.New, false, "error", ": 134; errors"}, {api.New, true, "error", "errors"},
		{api.New, false, "(seq (set.x this lit) (while lit (set.y this lit) (set.y this lit)))", ": 132; 1 1: 131; 1 2: 131; ends; x"},
		{api.New, true, "(seq (set.x this lit) (set.y this lit))", ": 134; ends; x y"},
		{api.Fun, true, "(if lit error (get.y this))", "errors; ends"}, {api.Fun, true, "this", ": 134; ends"}, {api.Fun, true, "(try error error (return lit))", ": 134; ends"}, {api.Fun, false, "(try error error (return lit))", "1: 134; ends"},
		{api.Fun, true, "(seq break)", ": 134; 0: 133"}, {api.Be, false, "(seq (assign.z lit))", "ends"}, {api.Be, false, "(return (assign.z lit))", "ends"}, {api.Be, false, "(let.a (assign.z lit))", "0: 130; ends"},
		{api.Be, false, "(if lit (assign.z lit) (while lit (assign.a lit) (match lit (case - (recover (assign.b lit))))))", "ends"},
		{api.Be, false, "(set.y this (assign.z lit))", ": 131; 1: 130; ends"},
	} {
		r, e := flow.Check(entity(x.kind, x.partial, read(t, x.body)), 1, nil)
		if got := showReport(r); e != api.OK || got != x.want {
			t.Errorf("%s: %s, error %d, want %s", x.body, got, e, x.want)
		}
	}
}

func tall(depth int) api.Expr {
	x := api.Expr{Op: api.OpUnit}
	for range depth - 1 {
		x = api.Expr{Op: api.OpRecover, Kids: []api.Expr{x}}
	}
	return x
}

func wide(nodes int) api.Expr {
	return api.Expr{Op: api.OpSeq, Kids: slices.Repeat([]api.Expr{{Op: api.OpUnit}}, nodes-1)}
}

// TestForms is P11.1 for the errors of expressions, on both sides of the limits.
func TestForms(t *testing.T) {
	wrong := api.Expr{Op: 27}
	type form struct {
		x    api.Expr
		want api.Errno
	}
	l := []form{{tall(100), api.OK}, {tall(101), api.ErrSize}, {wide(4000), api.OK}, {wide(4001), api.ErrSize}, {api.Expr{}, api.ErrForm}, {wrong, api.ErrForm}, {api.Expr{Op: -1}, api.ErrForm}, {api.Expr{Text: "x"}, api.ErrForm},
		{api.Expr{Op: 27, Kids: wide(4000).Kids}, api.ErrForm}, {api.Expr{Op: 27, Kids: wide(4001).Kids}, api.ErrSize}, {api.Expr{Op: api.OpSeq, Kids: []api.Expr{wide(3000), {Op: api.OpTry, Kids: []api.Expr{wide(997), {}, {}}}}}, api.ErrSize},
		{api.Expr{Op: api.OpSeq, Kids: []api.Expr{wide(3000), {Op: api.OpTry, Kids: []api.Expr{wide(996), {}, {}}}}}, api.OK}, {api.Expr{Op: api.OpSeq, Kids: []api.Expr{{Op: api.OpTry, Types: []api.Type{{}, {}}, Text: "x", Kids: []api.Expr{wide(3995), {}, {}}}}}, api.OK}}
	right := map[int]string{api.OpLit: "0", api.OpLocal: "0", api.OpThis: "0", api.OpGet: "1", api.OpSet: "2", api.OpVar: "01", api.OpLet: "01", api.OpAssign: "1", api.OpConsume: "0", api.OpSeq: "01234", api.OpIf: "3", api.OpWhile: "3", api.OpTry: "3", api.OpError: "0",
		api.OpReturn: "01", api.OpBreak: "0", api.OpContinue: "0", api.OpCall: "1234", api.OpNew: "01234", api.OpRecover: "1", api.OpTuple: "01234", api.OpItem: "1", api.OpIs: "2", api.OpUnit: "0", api.OpMatch: "1", api.OpCase: ""}
	lacks := map[int]string{api.OpIf: "2", api.OpWhile: "2", api.OpTry: "12"}
	for op := 1; op <= api.OpLast; op++ {
		for n := range 5 {
			x := api.Expr{Op: op, Kids: wide(n + 1).Kids}
			want := api.ErrForm
			if strings.Contains(right[op], strconv.Itoa(n)) {
				want = api.OK
			}
			l = append(l, form{x, want})
			for i := range n {
				y := x
				y.Kids = slices.Clone(x.Kids)
				y.Kids[i] = api.Expr{}
				lack := want
				if want == api.OK && !strings.Contains(lacks[op], strconv.Itoa(i)) {
					lack = api.ErrForm
				}
				l = append(l, form{y, lack})
				y.Kids = slices.Clone(y.Kids)
				y.Kids[i] = wrong
				l = append(l, form{y, api.ErrForm})
			}
		}
	}
	for s, want := range map[string]api.Errno{
		"(match lit (case - lit))": api.OK, "(match lit (case lit lit) (case - lit))": api.OK, "(match lit (case - -))": api.ErrForm, "(match lit (case lit))": api.ErrForm, "(match lit (case lit lit lit))": api.ErrForm, "(match lit lit)": api.ErrForm, "(match (case - lit))": api.ErrForm,
		"(match lit -)": api.ErrForm, "(match -)": api.ErrForm, "(case - lit)": api.ErrForm, "(seq (case - lit))": api.ErrForm, "(match lit (case (case - lit) lit))": api.ErrForm, "(if lit lit (case - lit))": api.ErrForm,
	} {
		l = append(l, form{read(t, s), want})
	}
	for i, f := range l {
		_, e1 := flow.Locals(f.x)
		_, e2 := flow.Free(f.x)
		_, e3 := flow.Valued(f.x, nil, nil)
		if e1 != f.want || e2 != f.want || e3 != f.want {
			t.Errorf("form %d, %v: errors %d, %d, %d, want %d", i, f.x.Op, e1, e2, e3, f.want)
		}
		if reflect.DeepEqual(f.x, api.Expr{}) {
			continue
		}
		if r, e := flow.Check(entity(api.Fun, false, f.x), 1, nil); e != f.want || e != api.OK && !reflect.DeepEqual(r, flow.Report{}) {
			t.Errorf("form %d: Check: error %d", i, e)
		}
	}
	e := entity(api.New, true, wrong)
	for _, n := range []int{-1, 2, 1 << 40} {
		if _, e := flow.Check(e, n, make([][]int, 4001)); e != api.ErrNone {
			t.Errorf("method %d: error %d", n, e)
		}
	}
	if r, e := flow.Check(e, 0, make([][]int, 4001)); e != api.OK || showReport(r) != "" {
		t.Errorf("no body: error %d", e)
	}
	if _, e := flow.Check(e, 1, make([][]int, 4001)); e != api.ErrForm {
		t.Errorf("a wrong body: error %d", e)
	}
	if _, e := flow.Check(entity(api.Fun, false, wide(2)), 1, make([][]int, 4001)); e != api.ErrSize {
		t.Errorf("too many paths: error %d", e)
	}
	if _, e := flow.Check(entity(api.Fun, false, wide(2)), 1, make([][]int, 4000)); e != api.OK {
		t.Errorf("4000 paths: error %d", e)
	}
}

// TestParts is P11.1 for At, Locals, Free and Valued.
func TestParts(t *testing.T) {
	x := read(t, "(seq (var.b lit) (let.a (assign.d local.b)) (match consume.e (case.c - (seq var.b local.a local.z)) (case - local.c)) (assign.d lit) get.x)")
	if y, e := flow.At(x, []int{2, 1, 1, 2}); e != api.OK || show(y) != "local.z" {
		t.Errorf("At: %v, error %d", y, e)
	}
	if y, e := flow.At(x, nil); e != api.OK || show(y) != show(x) {
		t.Errorf("At: %v, error %d", y, e)
	}
	if y, e := flow.At(x, []int{2, 1, 0}); e != api.OK || show(y) != "-" {
		t.Errorf("At: %v, error %d", y, e)
	}
	for _, path := range [][]int{{5}, {-1}, {0, 0, 0}, {2, 1, 1, 3}} {
		if y, e := flow.At(x, path); e != api.ErrNone || show(y) != "-" {
			t.Errorf("At %v: %v, error %d", path, y, e)
		}
	}
	x.Kids = x.Kids[:4]
	if l, e := flow.Locals(x); e != api.OK || strings.Join(l, " ") != "b a c" {
		t.Errorf("Locals: %v, error %d", l, e)
	}
	if l, e := flow.Free(x); e != api.OK || strings.Join(l, " ") != "d e z" {
		t.Errorf("Free: %v, error %d", l, e)
	}
	for _, c := range []struct{ body, set, path, want string }{
		{"local.a", "", "", ""}, {"local.a", "b a b", "", "a b"}, {"(seq (assign.c lit) local.a)", "a", "1", "a c"}, {"(seq (assign.c lit) local.a)", "a", "1 0", "5"}, {"(if lit lit -)", "a", "2", "5"}, {"(if lit lit -)", "a", "-1", "5"}, {"(seq error lit)", "a", "1", "135"},
		{"(while local.a (seq (var.b lit) consume.a) local.b)", "a", "", "a"}, {"(while local.a (seq (var.b lit) consume.a) local.b)", "a", "0", ""}, {"(while local.a (seq (var.b lit) consume.a (assign.a lit)) local.b)", "a c", "1 1", "a b c"}, {"(while local.a (seq (var.b lit) consume.a) local.b)", "a", "2", ""},
		{"(try (if lit (seq (assign.x lit) (assign.y lit) error) (seq (assign.x lit) error)) local.a -)", "a", "1", "a x"}, {"(try lit local.a -)", "a", "1", "135"}, {"(try (call.f lit) local.a -)", "a", "1", "135"},
		{"(try (if lit (seq (assign.x lit) (return lit)) (seq (assign.x lit) (assign.y lit))) - local.a)", "a", "2", "a x"}, {"(match lit (case.x local.x (return lit)) (case - local.y))", "a", "1", "a"}, {"(match lit (case.x local.x (return lit)) (case - local.y))", "a", "1 0", "a x"}, {"(match lit (case.a local.x (return lit)) (case - local.y))", "a", "2", ""},
		{"(seq (match lit (case.a - (return lit)) (case - lit)) lit)", "a", "1", ""}, {"(seq break lit)", "a", "1", "135"}, {"(seq var.a lit)", "a", "1", ""}, {"(seq (try consume.a - lit) lit)", "a", "0 2", ""},
	} {
		var path []int
		if c.path != "" {
			path = paths(t, c.path)[0]
		}
		l, e := flow.Valued(read(t, c.body), strings.Fields(c.set), path)
		got := strings.Join(l, " ")
		if e != api.OK {
			got = e.Error() + got
		}
		if got != c.want {
			t.Errorf("Valued of %s at %s: %s, want %s", c.body, c.path, got, c.want)
		}
	}
	if _, e := flow.Valued(api.Expr{Op: 99}, nil, []int{1}); e != api.ErrForm {
		t.Errorf("Valued: error %d", e)
	}
}
