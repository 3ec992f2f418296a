package lower_test

import (
	"slices"
	"strings"
	"testing"

	"hackamore/api"
	"hackamore/lower"
	"hackamore/notation"
	"hackamore/play"
	"hackamore/ssa"
	"hackamore/world"
)

// least is the least program; tests put their entities behind it.
const least = `
	primitive val None
	primitive val U8
	primitive val U32
	actor tag Out
	be tag print(text: String val)
	class val Env
	let out: Out tag
	let args: Any tag
	let root: Any tag
	actor tag main.Main
	new tag create(env: Env val) => unit{None val}
`

// with returns the least program with a class main.C with a body.
func with(body string) []api.Entity {
	return notation.Program(least + "class ref main.C\nfun box m(x: U8 val): U8 val => " + body)
}

// bodied returns the least program with a class main.C whose method has a body.
func bodied(x api.Expr) []api.Entity {
	p := with("this")
	p[len(p)-1].Methods[0].Body = x
	return p
}

// TestForms is P20.1: bodies that are not as layer 18 asks for them.
func TestForms(t *testing.T) {
	for body, e := range map[string]api.Errno{
		"local.x":    api.OK,
		"local.none": api.OK,
		"(seq)":      api.OK,
		"(seq this lit.1{U8 val} lit.true{Bool val} lit.x{String val})": api.OK,
		"lit.300{U8 val}":                    lower.ErrLower,
		"lit.x{U8 val}":                      lower.ErrLower,
		"lit.yes{Bool val}":                  lower.ErrLower,
		"lit.1{None val}":                    lower.ErrLower,
		"lit.1":                              lower.ErrLower,
		"(lit.1{U8 val} this)":               lower.ErrLower,
		"(get.f)":                            lower.ErrLower,
		"(get.f this this)":                  lower.ErrLower,
		"(set.f this)":                       lower.ErrLower,
		"(local.x this)":                     lower.ErrLower,
		"this{U8 val}":                       lower.ErrLower,
		"(call.m)":                           lower.ErrLower,
		"(call.m{U8 val} this)":              lower.ErrLower,
		"(new.create local.x)":               lower.ErrLower,
		"(new.create{U8 val;U8 val})":        lower.ErrLower,
		"(tuple this)":                       lower.ErrLower,
		"(item.0 this)":                      api.OK,
		"(item.063 this)":                    api.OK,
		"(item.64 this)":                     lower.ErrLower,
		"(item this)":                        lower.ErrLower,
		"(item.x this)":                      lower.ErrLower,
		`(item."-1" this)`:                   lower.ErrLower,
		"(item.99999999999999999999 this)":   lower.ErrLower,
		"(if this this)":                     lower.ErrLower,
		"(if this this -)":                   api.OK,
		"(if - this -)":                      lower.ErrLower,
		"(if this - -)":                      lower.ErrLower,
		"(while this this -)":                api.OK,
		"(while this - -)":                   lower.ErrLower,
		"(try this - -)":                     api.OK,
		"(try - this -)":                     lower.ErrLower,
		"(seq -)":                            lower.ErrLower,
		"(return this)":                      api.OK,
		"(return)":                           api.OK,
		"(return this this)":                 lower.ErrLower,
		"(return -)":                         lower.ErrLower,
		"(var.y{U8 val})":                    api.OK,
		"(var.y)":                            lower.ErrLower,
		"(let.y{U8 val} this this)":          lower.ErrLower,
		"(recover this)":                     lower.ErrLower,
		"(recover{this} this)":               api.OK,
		"(unit)":                             lower.ErrLower,
		"(is this)":                          lower.ErrLower,
		"(match this)":                       api.OK,
		"(match this this)":                  lower.ErrLower,
		"(match (case{U8 val} - this))":      lower.ErrLower,
		"(match this (case{U8 val} - this))": api.OK,
		"(match this (case{U8 val} this -))": lower.ErrLower,
		"(match this (case - this))":         lower.ErrLower,
		"(match this (case{U8 val} this))":   lower.ErrLower,
		"(match -)":                          lower.ErrLower,
		"(case{U8 val} - this)":              lower.ErrLower,
		"(seq (case{U8 val} - this))":        lower.ErrLower,
		"break":                              lower.ErrLower,
		"continue":                           lower.ErrLower,
		"(if this break -)":                  lower.ErrLower,
		"(while break continue -)":           api.OK,
		"(while this this break)":            lower.ErrLower,
		"(while this (while this this continue) -)":                             api.OK,
		"(seq (while this this -) break)":                                       lower.ErrLower,
		"(seq (return this) break)":                                             lower.ErrLower,
		"(seq (return this) (get.f))":                                           lower.ErrLower,
		"(try (while this (match this (case{U8 val} this break)) -) this this)": api.OK,
		`(get."" this)`:                lower.ErrLower,
		`(call."" this)`:               lower.ErrLower,
		`(local."")`:                   api.OK,
		`(var."a b\xff"{U8 val} this)`: api.OK,
	} {
		p := bodied(notation.Expr(body))
		f, e1 := lower.Method(p, "main.C", "m")
		_, e2 := lower.Lower(p)
		if e1 != e || e2 != e {
			t.Errorf("%s: errors %d and %d, want %d", body, e1, e2, e)
		}
		if _, wrong := ssa.CheckFunc(f); e == api.OK && wrong != api.OK {
			t.Errorf("%s: its function has the error %d", body, wrong)
		}
	}
	odd := notation.Expr("(if this this -)") // what has the Op 0 is none, whatever else it has
	odd.Kids[2].Kids = []api.Expr{{Op: api.OpVar}, {Op: 99}}
	if _, e := lower.Method(bodied(odd), "main.C", "m"); e != api.OK {
		t.Errorf("an else that is none: error %d", e)
	}
	for _, op := range []int{-1, 0, 27} {
		if _, e := lower.Method(bodied(api.Expr{Op: api.OpSeq, Kids: []api.Expr{{Op: op}}}), "main.C", "m"); e != lower.ErrLower {
			t.Errorf("the operation %d: error %d", op, e)
		}
	}
}

// TestTooLarge is P20.1: bodies, and functions, that are too large.
func TestTooLarge(t *testing.T) {
	this := api.Expr{Op: api.OpThis}
	nested := func(depth int) api.Expr {
		x := this
		for range depth - 1 {
			x = api.Expr{Op: api.OpSeq, Kids: []api.Expr{x}}
		}
		return x
	}
	text := func(n int) api.Expr {
		return api.Expr{Op: api.OpLit, Text: strings.Repeat("a", n), Types: []api.Type{{Kind: api.TypeName, Name: "String"}}}
	}
	wide := func(op, n int, k api.Expr) api.Expr {
		return api.Expr{Op: op, Text: "m", Kids: slices.Repeat([]api.Expr{k}, n)}
	}
	conditions := wide(api.OpSeq, 250, notation.Expr("(if this this this)"))
	then := this
	for range 30 {
		then = api.Expr{Op: api.OpTry, Kids: []api.Expr{{Op: api.OpIf, Kids: []api.Expr{this, {Op: api.OpReturn}, {Op: api.OpError}}}, {}, then}}
	}
	for name, c := range map[string]struct {
		x api.Expr
		e api.Errno
	}{
		"the depth 100":                 {nested(100), api.OK},
		"the depth 101":                 {nested(101), lower.ErrLower},
		"4000 nodes":                    {wide(api.OpSeq, 3999, this), api.OK},
		"4001 nodes":                    {wide(api.OpSeq, 4000, this), lower.ErrLower},
		"a text of 4000 bytes":          {text(4000), api.OK},
		"a text of 4001 bytes":          {text(4001), lower.ErrLower},
		"a tuple of 64":                 {wide(api.OpTuple, 64, this), api.OK},
		"a tuple of 65":                 {wide(api.OpTuple, 65, this), lower.ErrLower},
		"a call with 64 arguments":      {wide(api.OpCall, 64, this), api.OK},
		"a call with 65 arguments":      {wide(api.OpCall, 65, this), lower.ErrLower},
		"250 conditions":                {conditions, lower.ErrLower},
		"4000 calls":                    {wide(api.OpSeq, 1999, notation.Expr("(get.f this)")), api.OK},
		"thens within thens, of 5 ways": {then, api.OK},
	} {
		if _, e := lower.Method(bodied(c.x), "main.C", "m"); e != c.e {
			t.Errorf("%s: error %d, want %d", name, e, c.e)
		}
	}
	params := with("this")
	m := &params[len(params)-1].Methods[0]
	m.Params = make([]api.Param, 63)
	if f, e := lower.Method(params, "main.C", "m"); e != api.OK || len(f.Params) != 64 {
		t.Errorf("63 parameters: error %d", e)
	}
	m.Params = make([]api.Param, 64)
	if _, e := lower.Method(params, "main.C", "m"); e != lower.ErrLower {
		t.Errorf("64 parameters: error %d", e)
	}
}

// TestMethods is P20.1 for which functions there are, and what they have.
func TestMethods(t *testing.T) {
	p := notation.Program(least + `
		trait ref main.T is main.S ref; main.U box
		fun box b(): U8 val => local.x
		fun box d(): U8 val => local.x
		fun box none(): U8 val
		trait ref main.S is main.T ref
		fun box e(): U8 val => local.x
		fun box a(): U8 val => local.x
		trait box main.U
		fun box g(): U8 val => local.x
		fun box none(): U8 val => local.x
		class ref main.C is main.T ref; main.U ref
		new iso create(n: U8 val; o: (U8 val | None val)) ? => this
		fun trn c(): U8 val => local.x
		fun box b(): None box => local.x
		fun box d(): U8 val
		be tag go(x: main.C iso) => this
		primitive val main.P is main.U box
		interface box main.I
		fun box i(): U8 val => local.x
	`)
	f, e := lower.Lower(p)
	if e != api.OK {
		t.Fatalf("error %d", e)
	}
	var names []string
	for _, x := range f.Funcs {
		names = append(names, x.Name)
	}
	if got, want := strings.Join(names, " "), "main.Main.create main.C.create main.C.c main.C.b main.C.go main.C.e main.C.a main.C.g main.P.g main.P.none"; got != want {
		t.Errorf("the functions are %s, want %s", got, want)
	}
	made := f.Funcs[1]
	if told(made.Params) != told(notation.Types("main.C iso; U8 val; (U8 val | None val)")) || !made.Partial || made.Result.Kind != 0 {
		t.Errorf("the constructor is %v", made)
	}
	if b := f.Funcs[3]; told(b.Params) != told(notation.Types("main.C box")) || b.Partial || told(b.Result) != told(notation.Type("None box")) {
		t.Errorf("the function b is %v", b)
	}
	for i, x := range f.Entities {
		want := p[i]
		want.Methods = slices.Clone(want.Methods)
		for j := range want.Methods {
			want.Methods[j].Body = api.Expr{}
		}
		if told(x) != told(want) {
			t.Errorf("the entity %d is %v", i, x)
		}
	}
	for i, x := range f.Funcs {
		k := strings.LastIndexByte(x.Name, '.')
		g, e := lower.Method(p, x.Name[:k], x.Name[k+1:])
		if e != api.OK || told(g) != told(x) {
			t.Errorf("%d: Method of %s has the error %d", i, x.Name, e)
		}
	}
	for name, want := range map[string]api.Errno{
		"main.C none": world.ErrMethod, "main.C d": world.ErrMethod, "main.C i": world.ErrMethod, "main.X m": world.ErrMethod, "main.T d": api.OK, "main.S b": api.OK,
		"main.I i": api.OK, "main.C g": api.OK, "Out print": world.ErrMethod,
	} {
		entity, method, _ := strings.Cut(name, " ")
		if g, e := lower.Method(p, entity, method); e != want || e == api.OK && g.Name != entity+"."+method {
			t.Errorf("Method of %s: error %d, want %d", name, e, want)
		}
	}
}

// TestErrors is P20.1 for the errors of whole programs.
func TestErrors(t *testing.T) {
	long := strings.Repeat("n", 200-len("main.C."))
	named := func(name string) []api.Entity {
		p := with("this")
		p[len(p)-1].Methods[0].Name = name
		return p
	}
	two := append(notation.Program(least), api.Entity{Kind: api.Class, Name: "a.b"}, api.Entity{Kind: api.Class, Name: "a"})
	two[len(two)-2].Methods = []api.Method{{Kind: api.Fun, Name: "c", Body: api.Expr{Op: api.OpThis}}}
	two[len(two)-1].Methods = []api.Method{{Kind: api.Fun, Name: "b.c", Body: api.Expr{Op: api.OpThis}}}
	for name, c := range map[string]struct {
		p []api.Entity
		e api.Errno
	}{
		"no program":           {nil, world.ErrMethod},
		"too many":             {make([]api.Entity, 201), api.ErrSize},
		"one name twice":       {append(with("break"), with("this")[0]), api.ErrTwice},
		"a name of 200 bytes":  {named(long), api.OK},
		"a name of 201 bytes":  {named(long + "x"), lower.ErrLower},
		"a name that is empty": {named(""), api.OK},
		"a name without UTF-8": {named("\xff"), lower.ErrLower},
		"two functions":        {two, lower.ErrLower},
	} {
		if f, e := lower.Lower(c.p); e != c.e || e != api.OK && told(f) != told(ssa.Program{}) {
			t.Errorf("%s: error %d, want %d", name, e, c.e)
		}
	}
	if _, e := lower.Method(nil, "a", "b"); e != world.ErrMethod {
		t.Errorf("a method of nothing: error %d", e)
	}
	for entity := range map[string]bool{"a": true, "a.b": true} {
		method := map[string]string{"a": "b.c", "a.b": "c"}[entity]
		if f, e := lower.Method(two, entity, method); e != api.OK || f.Name != "a.b.c" {
			t.Errorf("the method of %s: error %d", entity, e)
		}
	}
}

// TestExample is the chapter's: the function of a body that returns a parameter. Where the result is None the function has that.
func TestExample(t *testing.T) {
	for _, kind := range []int{api.New, api.Fun, api.Be} {
		p := with("(return local.x)")
		p[len(p)-1].Methods[0].Kind = kind
		f, e := lower.Method(p, "main.C", "m")
		if e != api.OK {
			t.Fatalf("error %d", e)
		}
		f, e = ssa.Promote(f)
		if want := []ssa.Block{{End: ssa.End{Kind: ssa.Return, Args: []int{1}}}}; e != api.OK || told(f.Blocks) != told(want) {
			t.Errorf("error %d: %v", e, f.Blocks)
		}
	}
	for _, body := range []string{"(return local.x)", "local.x", "(try (return local.x) - local.x)"} {
		p := with(body)
		p[len(p)-1].Methods[0].Result = notation.Type("None tag")
		f, e := lower.Method(p, "main.C", "m")
		for _, x := range f.Blocks {
			if x.End.Kind != ssa.Return {
				continue
			}
			l := ssa.Program{Funcs: []ssa.Func{f}}
			if r := play.Run(l, 0, []api.Value{{Kind: api.ValBool}, {Kind: api.ValBool}}, 100); e != api.OK || r.End != "value 4:0" {
				t.Errorf("%s: error %d: %v", body, e, r)
			}
		}
	}
}
