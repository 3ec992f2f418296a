package types_test

import (
	"reflect"
	"strings"
	"testing"

	"hackamore/api"
	"hackamore/cap"
	"hackamore/draw"
	"hackamore/types"
)

const (
	iso, trn, ref, val, box, tag = api.Iso, api.Trn, api.Ref, api.Val, api.Box, api.Tag
)

// read returns the type with a text.
func read(t *testing.T, s string) api.Type {
	t.Helper()
	x, e := types.Parse(s)
	if e != api.OK {
		t.Fatalf("%s: error %d", s, e)
	}
	return x
}

func readAll(t *testing.T, s string) []api.Type {
	t.Helper()
	var l []api.Type
	for _, part := range strings.Split(s, "; ") {
		if s != "" {
			l = append(l, read(t, part))
		}
	}
	return l
}

// shown returns the text of a result, or the code of its error.
func shown(x api.Type, e api.Errno) string {
	if e != api.OK {
		if !reflect.DeepEqual(x, api.Type{}) {
			return "a type with the error " + e.Error()
		}
		return e.Error()
	}
	s, e := types.Text(x)
	if e != api.OK {
		return "no type: " + e.Error()
	}
	return s
}

func is(t *testing.T, what, want, got string) {
	t.Helper()
	if got != want {
		t.Errorf("%s: %s, want %s", what, got, want)
	}
}

// maker returns a maker of types of all sorts.
func maker(seed uint64) *draw.Maker {
	m := draw.New(seed)
	m.Names = []string{"U32", "main.A", "a b", "this", "9x", "é\n\"\\", "x'", "'", "main.Cell[U32 val]"}
	m.Generic = []string{"main.Cell", "this"}
	m.Params = []string{"A", "B", "this", "C D"}
	m.Marks, m.Arrows, m.Open = true, true, true
	return m
}

// deep returns a type of some depth.
func deep(depth int) api.Type {
	t := types.Named("A", ref, nil)
	for range depth - 1 {
		t = types.Named("A", ref, []api.Type{t})
	}
	return t
}

// wide returns a type of some nodes.
func wide(nodes int) api.Type {
	t := api.Type{Kind: api.TypeTuple}
	for left := nodes - 1; left > 0; {
		n := min(left, 50)
		t.Args = append(t.Args, types.Named("A", ref, make([]api.Type, n-1)))
		for i := range n - 1 {
			t.Args[len(t.Args)-1].Args[i] = types.Named("B", val, nil)
		}
		left -= n
	}
	return t
}

// TestCheck is P8.1 for well-formed types, on both sides of the limits.
func TestCheck(t *testing.T) {
	a, p, self := types.Named("A", ref, nil), api.Type{Kind: api.TypeParam, Name: "A"}, api.Type{Kind: api.TypeSelf}
	list := func(kind, n int) api.Type {
		x := api.Type{Kind: kind}
		for range n {
			x.Args = append(x.Args, a)
		}
		return x
	}
	named := func(n int) api.Type { return types.Named(strings.Repeat("a", n), ref, nil) }
	param := func(n int) api.Type { return api.Type{Kind: api.TypeParam, Name: strings.Repeat("a", n)} }
	for i, x := range []struct {
		t    api.Type
		want api.Errno
	}{
		{a, api.OK}, {p, api.OK}, {self, api.OK}, {api.Type{}, api.ErrForm}, {api.Type{Kind: -1}, api.ErrForm}, {api.Type{Kind: 8}, api.ErrForm},
		{named(0), api.ErrForm}, {named(1), api.OK}, {named(300), api.OK}, {named(301), api.ErrForm}, {types.Named("\xff", ref, nil), api.ErrForm},
		{param(0), api.ErrForm}, {param(1), api.OK}, {param(60), api.OK}, {param(61), api.ErrForm}, {api.Type{Kind: api.TypeParam, Name: "a\xff"}, api.ErrForm},
		{types.Named("A", 0, nil), api.ErrForm}, {types.Named("A", 7, nil), api.ErrForm}, {types.Named("A", -1, nil), api.ErrForm},
		{api.Type{Kind: api.TypeName, Name: "A", Cap: ref, Mark: 2}, api.OK}, {api.Type{Kind: api.TypeName, Name: "A", Cap: ref, Mark: 3}, api.ErrForm}, {api.Type{Kind: api.TypeName, Name: "A", Cap: ref, Mark: -1}, api.ErrForm},
		{api.Type{Kind: api.TypeParam, Name: "A", Cap: 7}, api.ErrForm}, {api.Type{Kind: api.TypeParam, Name: "A", Cap: tag, Mark: 2}, api.OK}, {api.Type{Kind: api.TypeParam, Name: "A", Args: []api.Type{a}}, api.ErrForm},
		{api.Type{Kind: api.TypeSelf, Cap: iso, Mark: 1}, api.OK}, {api.Type{Kind: api.TypeSelf, Name: "x"}, api.ErrForm}, {api.Type{Kind: api.TypeSelf, Cap: 8}, api.ErrForm}, {api.Type{Kind: api.TypeSelf, Args: []api.Type{a}}, api.ErrForm},
		{list(api.TypeUnion, 1), api.ErrForm}, {list(api.TypeUnion, 2), api.OK}, {list(api.TypeBoth, 64), api.OK}, {list(api.TypeTuple, 65), api.ErrForm}, {list(api.TypeName, 0), api.ErrForm},
		{types.Named("A", ref, list(api.TypeUnion, 64).Args), api.OK}, {types.Named("A", ref, list(api.TypeUnion, 65).Args), api.ErrForm},
		{api.Type{Kind: api.TypeUnion, Cap: ref, Args: []api.Type{a, a}}, api.ErrForm}, {api.Type{Kind: api.TypeBoth, Mark: 1, Args: []api.Type{a, a}}, api.ErrForm}, {api.Type{Kind: api.TypeTuple, Name: "x", Args: []api.Type{a, a}}, api.ErrForm},
		{api.Type{Kind: api.TypeArrow, Args: []api.Type{self, a}}, api.OK}, {api.Type{Kind: api.TypeArrow, Args: []api.Type{p, a}}, api.OK}, {api.Type{Kind: api.TypeArrow, Args: []api.Type{a, a}}, api.ErrForm},
		{api.Type{Kind: api.TypeArrow, Args: []api.Type{self}}, api.ErrForm}, {api.Type{Kind: api.TypeArrow, Args: []api.Type{self, a, a}}, api.ErrForm}, {api.Type{Kind: api.TypeArrow, Name: "x", Args: []api.Type{self, a}}, api.ErrForm},
		{deep(20), api.OK}, {deep(21), api.ErrSize}, {wide(300), api.OK}, {wide(301), api.ErrSize}, {types.Named("", 9, wide(301).Args), api.ErrSize},
		{types.Named("A", ref, []api.Type{{}}), api.ErrForm},
	} {
		if e := types.Check(x.t); e != x.want {
			t.Errorf("type %d: error %d, want %d", i, e, x.want)
		}
	}
	if n, d := types.Size(deep(30)); n != 30 || d != 30 {
		t.Errorf("Size: %d, %d", n, d)
	}
	if n, d := types.Size(wide(1000)); n != 1000 || d != 3 {
		t.Errorf("Size: %d, %d", n, d)
	}
	if n, d := types.Size(api.Type{}); n != 1 || d != 1 {
		t.Errorf("Size: %d, %d", n, d)
	}
}

// TestEqual is P8.1 for Equal and Named.
func TestEqual(t *testing.T) {
	a := types.Named("A", ref, []api.Type{types.Named("B", 9, nil)})
	if want := (api.Type{Kind: 1, Name: "A", Cap: 3, Args: []api.Type{{Kind: 1, Name: "B", Cap: 9}}}); !reflect.DeepEqual(a, want) {
		t.Errorf("Named: %v", a)
	}
	if !types.Equal(a, types.Named("A", ref, []api.Type{{Kind: 1, Name: "B", Cap: 9, Args: []api.Type{}}})) || !types.Equal(api.Type{}, api.Type{}) {
		t.Error("equal types")
	}
	for _, b := range []api.Type{{Kind: 2, Name: "A", Cap: 3, Args: a.Args}, {Kind: 1, Name: "a", Cap: 3, Args: a.Args}, {Kind: 1, Name: "A", Cap: 4, Args: a.Args},
		{Kind: 1, Name: "A", Cap: 3, Mark: 1, Args: a.Args}, {Kind: 1, Name: "A", Cap: 3}, {Kind: 1, Name: "A", Cap: 3, Args: []api.Type{{Kind: 1, Name: "B", Cap: 8}}}} {
		if types.Equal(a, b) || types.Equal(b, a) {
			t.Errorf("%v is equal", b)
		}
	}
}

// TestText is P8.1 and P8.2 for single texts.
func TestText(t *testing.T) {
	a := types.Named("main.A", iso, nil)
	arg := func(kind int, l ...api.Type) api.Type { return api.Type{Kind: kind, Args: l} }
	for s, x := range map[string]api.Type{
		"main.A iso":                        a,
		"main.A iso^":                       {Kind: 1, Name: "main.A", Cap: iso, Mark: api.Ephemeral},
		"Cell[main.A iso, B val!] tag":      {Kind: 1, Name: "Cell", Cap: tag, Args: []api.Type{a, {Kind: 1, Name: "B", Cap: val, Mark: 2}}},
		"$A":                                {Kind: 2, Name: "A"},
		"$A!":                               {Kind: 2, Name: "A", Mark: 2},
		"$\"this\" ref^":                    {Kind: 2, Name: "this", Cap: ref, Mark: 1},
		"this":                              {Kind: 7},
		"this box!":                         {Kind: 7, Cap: box, Mark: 2},
		"\"this\" ref":                      types.Named("this", ref, nil),
		"thisx ref":                         types.Named("thisx", ref, nil),
		"_x'.9 ref":                         types.Named("_x'.9", ref, nil),
		"\"'x\" ref":                        types.Named("'x", ref, nil),
		"\".x\" ref":                        types.Named(".x", ref, nil),
		"\"9\" ref":                         types.Named("9", ref, nil),
		"\"a \\\\ \\\"\\n\té\" ref":         types.Named("a \\ \"\n\té", ref, nil),
		"\"main.Cell[U32 val]\" ref":        types.Named("main.Cell[U32 val]", ref, nil),
		"(main.A iso | $A)":                 arg(api.TypeUnion, a, api.Type{Kind: 2, Name: "A"}),
		"(main.A iso & $A & main.A iso)":    arg(api.TypeBoth, a, api.Type{Kind: 2, Name: "A"}, a),
		"(main.A iso, (this -> $A))":        arg(api.TypeTuple, a, arg(api.TypeArrow, api.Type{Kind: 7}, api.Type{Kind: 2, Name: "A"})),
		"($A box -> (this! -> main.A iso))": arg(api.TypeArrow, api.Type{Kind: 2, Name: "A", Cap: box}, arg(api.TypeArrow, api.Type{Kind: 7, Mark: 2}, a)),
	} {
		is(t, "Text", s, shown(x, types.Check(x)))
		if y, e := types.Parse(s); e != api.OK || !types.Equal(x, y) {
			t.Errorf("Parse of %s: %v, error %d", s, y, e)
		}
	}
	for _, s := range []string{"", " ", "ref", "A", "A  ref", "A ref ", " A ref", "A Ref", "A #any", "A ref^^", "A ref^!", "A[] ref", "A[B val,C val] ref", "A[B val, ] ref", "A[B val ref", "()", "(A ref)", "(A ref | B ref",
		"(A ref | B ref)x", "(A ref | B ref & C ref)", "(A ref|B ref)", "(A ref -> B ref)", "(this -> A ref -> B ref)", "(this)", "(this, )", "$", "$ ref", "$A #read", "$A[B ref]", "this[A ref]", "this#any", "$this", "\"A\" ref", "\"\" ref", "\"a b ref",
		"\"a\\ b\" ref", "\"a b\\", "9 ref", "'x ref", ".a ref", "é ref", "\"\xff\" ref", "A ref)", "A\nref", "(A ref, B ref)^", "(A ref | B ref) ref", strings.Repeat("a", 301) + " ref", "$" + strings.Repeat("a", 61)} {
		if x, e := types.Parse(s); e != api.ErrForm || !reflect.DeepEqual(x, api.Type{}) {
			t.Errorf("Parse of %q: %v, error %d", s, x, e)
		}
	}
}

// nested returns the text of a type within open brackets.
func nested(n int) string {
	return strings.Repeat("A[", n) + "A ref" + strings.Repeat("] ref", n)
}

// TestReadLimits is P8.1 for the limits of texts.
func TestReadLimits(t *testing.T) {
	long := "\"" + strings.Repeat(" ", 19994) + "\" ref"
	for i, x := range []struct {
		s    string
		want api.Errno
	}{
		{nested(19), api.OK}, {nested(20), api.ErrSize}, {nested(199), api.ErrSize}, {nested(200), api.ErrForm}, {nested(2800), api.ErrForm},
		{strings.Repeat("(A ref, ", 199) + "A ref" + strings.Repeat(")", 199), api.ErrSize}, {strings.Repeat("(A ref, ", 200) + "A ref" + strings.Repeat(")", 200), api.ErrForm},
		{long, api.ErrForm}, {long[:len(long)-1], api.ErrForm}, {long + " ", api.ErrSize}, {strings.Repeat("x", 20001), api.ErrSize},
	} {
		if y, e := types.Parse(x.s); e != x.want || e != api.OK && !reflect.DeepEqual(y, api.Type{}) {
			t.Errorf("text %d: error %d, want %d", i, e, x.want)
		}
	}
	for _, n := range []int{300, 301} {
		s := "(" + strings.Repeat("A[B val, B val, B val, B val, B val, B val, B val, B val, B val] ref, ", 29) + "A[B val, B val, B val, B val, B val, B val, B val, B val"
		s += strings.Repeat(", B val", n-300) + "] ref)"
		if x, e := types.Parse(s); (e == api.OK) != (n == 300) || e != api.OK && e != api.ErrSize {
			nodes, _ := types.Size(x)
			t.Errorf("%d nodes: error %d, %d", n, e, nodes)
		}
	}
}

// TestTexts is P8.2 for drawn types.
func TestTexts(t *testing.T) {
	seen := map[string]api.Type{}
	for seed := range uint64(4000) {
		m := maker(seed)
		x := m.Type(1 + m.Below(4))
		s, e := types.Text(x)
		if e != api.OK {
			t.Fatalf("seed %d: error %d", seed, e)
		}
		y, e := types.Parse(s)
		if e != api.OK || !types.Equal(x, y) {
			t.Fatalf("seed %d: %s: error %d", seed, s, e)
		}
		if other, ok := seen[s]; ok && !types.Equal(x, other) {
			t.Fatalf("seed %d: %s is the text of two types", seed, s)
		}
		seen[s] = x
		z := m.Spoil(x)
		if s, e := types.Text(z); e != types.Check(z) || (e != api.OK) != (s == "") {
			t.Fatalf("seed %d: %q, error %d", seed, s, e)
		}
		cut := m.Below(len(s))
		spoilt := s[:cut] + draw.One(m, "", " ", "(", "]", "\"", "x", "^") + s[cut+m.Below(2):]
		if y, e := types.Parse(spoilt); e == api.OK {
			is(t, "read", spoilt, shown(y, e))
		}
	}
}

// TestNormal is P8.1 and P8.3 for single types.
func TestNormal(t *testing.T) {
	for s, want := range map[string]string{
		"(None val | U32 val)":                              "(None val | U32 val)",
		"(U32 val | (None val | U32 val))":                  "(None val | U32 val)",
		"(U32 val | U32 val^)":                              "U32 val",
		"(A iso | A iso^ | A iso!)":                         "(A iso | A iso! | A iso^)",
		"(B ref & (A ref & (C ref & A ref)))":               "(A ref & B ref & C ref)",
		"(B ref & (A ref | A ref))":                         "(A ref & B ref)",
		"((B ref & B ref) | (C ref & (A ref | C ref)))":     "((A ref | C ref) & C ref) | B ref)",
		"Cell[(B val! | (A val | B val))] ref^":             "Cell[(A val | B val)] ref",
		"(A ref^, (B val | B val))":                         "(A ref, B val)",
		"$A ref!":                                           "$A ref",
		"$A!":                                               "$A!",
		"this val^":                                         "this val",
		"(this -> (B ref | A ref))":                         "(this -> (A ref | B ref))",
		"($A val^ -> A ref)":                                "($A val -> A ref)",
		"(this box -> (B iso | A ref | B tag))":             "(A box | B tag)",
		"(this val -> (this ref -> A ref))":                 "A val",
		"(A val | (this val -> (A ref & (A iso | A tag))))": "((A tag | A val) & A val) | A val)",
		"(this iso! -> A ref)":                              "13",
		"(this tag -> A ref)":                               "13",
		"(this val -> $A)":                                  "2",
		"(this val -> ($A -> A ref))":                       "2",
		"(this val -> ($A box -> A ref))":                   "A val",
		"((this tag -> A ref) | (this val -> $A))":          "13",
		"((this val -> $A) | (this tag -> A ref))":          "2",
		"Cell[(this trn! -> A ref)] ref":                    "Cell[A box] ref",
		"(this val -> Cell[(this tag -> A ref)] ref)":       "13",
		"(this ref -> (A iso!, $A iso))":                    "(A tag, $A iso)",
	} {
		if strings.Count(want, "(") != strings.Count(want, ")") {
			want = "(" + want
		}
		is(t, s, want, shown(types.Normal(read(t, s))))
	}
	for _, x := range []api.Type{{}, deep(21), wide(301)} {
		if y, e := types.Normal(x); e != types.Check(x) || !reflect.DeepEqual(y, api.Type{}) {
			t.Errorf("Normal: error %d", e)
		}
	}
	union := func(name string, n int) api.Type {
		x := api.Type{Kind: api.TypeUnion}
		for i := range n {
			x.Args = append(x.Args, types.Named(name+strings.Repeat("x", i), ref, nil))
		}
		return x
	}
	two := api.Type{Kind: api.TypeUnion, Args: []api.Type{union("A", 32), union("B", 32)}}
	if x, e := types.Normal(two); e != api.OK || len(x.Args) != 64 {
		t.Errorf("64 Args: error %d", e)
	}
	two.Args[1] = union("B", 33)
	if _, e := types.Normal(two); e != api.ErrSize {
		t.Errorf("65 Args: error %d", e)
	}
	two.Args[1] = union("A", 64)
	if x, e := types.Normal(two); e != api.OK || len(x.Args) != 64 {
		t.Errorf("equal Args: error %d", e)
	}
}

// TestUnion is P8.1 for Union.
func TestUnion(t *testing.T) {
	for s, want := range map[string]string{
		"":                        "1",
		"A val^":                  "A val",
		"B ref; A ref; B ref":     "(A ref | B ref)",
		"A iso; (B ref | A iso)":  "(A iso | B ref)",
		"(A ref, B ref); B ref":   "((A ref, B ref) | B ref)",
		"A ref; (this val -> $A)": "2",
	} {
		is(t, "Union of "+s, want, shown(types.Union(readAll(t, s))))
	}
	is(t, "a wrong one", "2", shown(types.Union([]api.Type{types.Named("A", ref, nil), {}, deep(21)})))
	is(t, "two wrong ones", "4", shown(types.Union([]api.Type{deep(21), {}})))
	many := make([]api.Type, 1000)
	for i := range many {
		many[i] = types.Named("A"+strings.Repeat("x", i%64), ref, nil)
	}
	if x, e := types.Union(many); e != api.OK || len(x.Args) != 64 {
		t.Errorf("1000 types: error %d", e)
	}
	is(t, "65 types", "4", shown(types.Union(append(many, types.Named("B", ref, nil)))))
}

// TestNormals is P8.3 for drawn types, and that no argument is changed.
func TestNormals(t *testing.T) {
	fine := 0
	for seed := range uint64(4000) {
		m := maker(seed)
		x := m.Type(1 + m.Below(4))
		before, _ := types.Text(x)
		n, e := types.Normal(x)
		is(t, "the argument", before, shown(x, api.OK))
		if e != api.OK {
			continue
		}
		fine++
		is(t, "Normal of Normal of "+before, shown(n, e), shown(types.Normal(n)))
		if x.Kind == api.TypeUnion {
			turned := append([]api.Type{{Kind: api.TypeUnion, Args: x.Args[1:]}}, x.Args[0])
			if len(x.Args) == 2 {
				turned[0] = x.Args[1]
			}
			is(t, "turned", shown(n, e), shown(types.Normal(api.Type{Kind: api.TypeUnion, Args: turned})))
			is(t, "Union of its Args", shown(n, e), shown(types.Union(x.Args)))
		}
	}
	if fine < 2000 {
		t.Errorf("%d types have a normal form", fine)
	}
}

// TestReified is P8.1 for Reified and Params.
func TestReified(t *testing.T) {
	for s, want := range map[string]string{
		"A ref": "", "$A": "A", "this ref": "", "this": "?", "Cell[($B, $A!)] ref": "B A", "(this val -> Cell[this] ref)": "?", "($B -> ($A | $B val))": "B A", "(this -> $A)": "A",
	} {
		x := read(t, s)
		if types.Reified(x) != (want == "") {
			t.Errorf("Reified of %s: %v", s, want != "")
		}
		if got := strings.Join(types.Params(x), " "); got != strings.Trim(want, "?") {
			t.Errorf("Params of %s: %s", s, got)
		}
	}
	wrong := types.Named("A", 0, []api.Type{{Kind: api.TypeParam, Name: "A"}})
	if types.Reified(wrong) || types.Reified(deep(21)) || len(types.Params(wrong)) > 0 {
		t.Error("a type with an error")
	}
}

// partsOf hands on the parts of a type.
func partsOf(t api.Type, yield func(api.Type)) {
	switch t.Kind {
	case api.TypeUnion, api.TypeBoth, api.TypeTuple:
		for _, a := range t.Args {
			partsOf(a, yield)
		}
	case api.TypeArrow:
		partsOf(t.Args[1], yield)
	default:
		yield(t)
	}
}

// TestCapabilities is P8.5 for drawn types.
func TestCapabilities(t *testing.T) {
	for seed := range uint64(4000) {
		m := maker(seed)
		m.Marks, m.Arrows, m.Open = seed%2 == 0, seed%3 == 0, seed%5 == 0
		x := m.Type(1 + m.Below(3))
		before, _ := types.Text(x)
		if y, e := types.With(x, m.Cap()); e == api.OK {
			partsOf(y, func(p api.Type) {
				if p.Cap != y.Cap && y.Kind <= 2 || p.Mark != api.Plain {
					t.Errorf("With: %v", p)
				}
			})
		}
		if y, e := types.Recovered(x, 0); e == api.OK && !types.Sendable(y) {
			t.Errorf("Recovered of %s is not sendable", before)
		}
		if types.Storable(iso, x) && !types.Sendable(x) {
			t.Errorf("%s is storable through iso", before)
		}
		if !m.Marks && !m.Arrows {
			y, _ := types.Consumed(x)
			is(t, "Aliased of Consumed", before, shown(types.Aliased(y)))
			if !m.Open {
				is(t, "seen through ref", before, shown(types.Seen(ref, x)))
			}
		}
		is(t, "the argument", before, shown(x, api.OK))
	}
}

// TestParts is P8.1 for what becomes of parts, for each capability with a mark.
func TestParts(t *testing.T) {
	for c := iso; c <= tag; c++ {
		for mark := range 3 {
			x := api.Type{Kind: 1, Name: "A", Cap: c, Mark: mark, Args: []api.Type{types.Named("B", trn, nil)}}
			counts := c
			if mark == api.Aliased && c <= trn {
				counts = map[int]int{iso: tag, trn: box}[c]
			}
			same := func(what string, got api.Type, e api.Errno, c, mark int, ok bool) {
				t.Helper()
				want := x
				want.Cap, want.Mark = c, mark
				if !ok {
					want = api.Type{}
				}
				if !types.Equal(got, want) || (e == api.OK) != ok || !ok && e != api.ErrCap {
					t.Errorf("%s of %v: %v, error %d", what, x, got, e)
				}
			}
			got, e := types.Aliased(x)
			a, b := cap.Alias(c, mark)
			same("Aliased", got, e, a, b, true)
			got, e = types.Consumed(x)
			a, b = cap.Consumed(c, mark)
			same("Consumed", got, e, a, b, true)
			for origin := iso; origin <= tag; origin++ {
				got, e = types.Seen(origin, x)
				a, ok := cap.View(origin, counts)
				same("Seen", got, e, a, 0, ok)
				got, e = types.Extracted(origin, x)
				a, b, ok = cap.Extract(origin, counts)
				same("Extracted", got, e, a, b, ok)
				got, e = types.With(x, origin)
				same("With", got, e, origin, 0, true)
				r, _ := cap.Recover(counts)
				got, e = types.Recovered(x, origin)
				same("Recovered", got, e, origin, 0, cap.Sub(r, origin))
				if types.Storable(origin, x) != cap.Store(origin, c, mark) {
					t.Errorf("Storable(%d, %v)", origin, x)
				}
			}
			r, _ := cap.Recover(counts)
			mark0 := 0
			if r == iso {
				mark0 = 1
			}
			got, e = types.Recovered(x, 0)
			same("Recovered", got, e, r, mark0, true)
			if types.Sendable(x) != cap.Sendable(counts) {
				t.Errorf("Sendable(%v)", x)
			}
		}
	}
}

// TestOrigins is P8.1 for arrows, for parts without capabilities, and for the errors in their order.
func TestOrigins(t *testing.T) {
	aliased := func(t api.Type) (api.Type, api.Errno) { return types.Aliased(t) }
	consumed := func(t api.Type) (api.Type, api.Errno) { return types.Consumed(t) }
	with := func(c int) func(api.Type) (api.Type, api.Errno) {
		return func(t api.Type) (api.Type, api.Errno) { return types.With(t, c) }
	}
	seen := func(c int) func(api.Type) (api.Type, api.Errno) {
		return func(t api.Type) (api.Type, api.Errno) { return types.Seen(c, t) }
	}
	extracted := func(c int) func(api.Type) (api.Type, api.Errno) {
		return func(t api.Type) (api.Type, api.Errno) { return types.Extracted(c, t) }
	}
	recovered := func(c int) func(api.Type) (api.Type, api.Errno) {
		return func(t api.Type) (api.Type, api.Errno) { return types.Recovered(t, c) }
	}
	for _, x := range []struct {
		what string
		do   func(api.Type) (api.Type, api.Errno)
		s    string
		want string
	}{
		{"Aliased", aliased, "(this iso -> (A iso, $A, $A^, this!))", "(this iso -> (A iso!, $A!, $A, this!))"},
		{"Consumed", consumed, "($A -> (A trn, $A, $A!, this))", "($A -> (A trn^, $A^, $A!, this^))"},
		{"With", with(box), "($A -> (A trn^, ($A, this)))", "(A box, ($A box, this box))"},
		{"With 0", with(0), "A ref", "13"},
		{"With 7", with(7), "A ref", "13"},
		{"Seen", seen(box), "main.Cell ref", "main.Cell box"},
		{"Seen", seen(iso), "(this val -> A ref)", "A val"},
		{"Seen", seen(val), "(this trn! -> (A ref, (this iso -> B ref)))", "(A val, B tag)"},
		{"Seen", seen(ref), "(this tag -> A ref)", "13"},
		{"Seen", seen(ref), "(this -> A ref)", "2"},
		{"Seen", seen(ref), "(A ref | $A)", "2"},
		{"Seen", seen(tag), "(A ref | $A)", "13"},
		{"Seen", seen(tag), "($A | A ref)", "2"},
		{"Seen", seen(0), "$A", "13"},
		{"Seen", seen(7), "$A", "13"},
		{"Seen", seen(ref), "Cell[$A] trn", "Cell[$A] trn"},
		{"Extracted", extracted(ref), "(this ref -> (A iso, B trn))", "(A iso^, B trn^)"},
		{"Extracted", extracted(trn), "(A iso!, B trn, C iso)", "(A tag, B box, C iso^)"},
		{"Extracted", extracted(box), "A ref", "13"},
		{"Extracted", extracted(ref), "(this -> A ref)", "2"},
		{"Extracted", extracted(ref), "$A", "2"},
		{"Extracted", extracted(-1), "$A", "13"},
		{"Recovered", recovered(0), "(A ref, B box, C iso!, (this trn -> D ref))", "(A iso^, B val, C tag, D val)"},
		{"Recovered", recovered(val), "(A ref, B box)", "(A val, B val)"},
		{"Recovered", recovered(iso), "(A ref, B box)", "13"},
		{"Recovered", recovered(7), "$A", "13"},
		{"Recovered", recovered(0), "$A", "2"},
		{"Recovered", recovered(0), "(this -> A ref)", "2"},
	} {
		is(t, x.what+" of "+x.s, x.want, shown(x.do(read(t, x.s))))
		for _, wrong := range []api.Type{{}, deep(21)} {
			is(t, x.what, types.Check(wrong).Error(), shown(x.do(wrong)))
		}
	}
	for _, s := range []string{"(this ref -> A val)", "$A", "this", "(A val, ($A val -> B val))"} {
		if x := read(t, s); types.Sendable(x) || types.Storable(ref, x) {
			t.Errorf("%s is sendable", s)
		}
	}
	for _, s := range []string{"A val", "(A iso!, (B tag | $A iso))", "Cell[(this -> $A)] val"} {
		if x := read(t, s); !types.Sendable(x) || !types.Storable(iso, x) {
			t.Errorf("%s is not sendable", s)
		}
	}
	if types.Sendable(api.Type{}) || types.Storable(ref, deep(21)) || types.Storable(0, read(t, "A val")) || types.Storable(9, read(t, "A val")) {
		t.Error("what has an error is sendable")
	}
}
