package colour_test

import (
	"fmt"
	"slices"
	"strings"
	"testing"

	"hackamore/api"
	"hackamore/colour"
	"hackamore/draw"
	"hackamore/ssa"
)

func told(v any) string { return fmt.Sprintf("%v", v) }

// entries returns entries of the method 0.
func entries(selectors ...int) []colour.Entry {
	var l []colour.Entry
	for _, s := range selectors {
		l = append(l, colour.Entry{Selector: s})
	}
	return l
}

// world returns a world with one body.
func world(classes ...[]colour.Entry) colour.World {
	return colour.World{Classes: classes, Bodies: []colour.Body{{}}}
}

// run returns numbers from a first one on.
func run(first, n int) []int {
	var l []int
	for i := range n {
		l = append(l, first+i)
	}
	return l
}

// TestCheck is P23.1 for Check: each error, in its order.
func TestCheck(t *testing.T) {
	bodies := func(n int) []colour.Body { return make([]colour.Body, n) }
	for name, c := range map[string]struct {
		w colour.World
		e api.Errno
	}{
		"nothing":                     {colour.World{}, api.OK},
		"200 classes":                 {colour.World{Classes: make([][]colour.Entry, 200)}, api.OK},
		"201 classes":                 {colour.World{Classes: make([][]colour.Entry, 201)}, api.ErrSize},
		"500 bodies":                  {colour.World{Bodies: bodies(500)}, api.OK},
		"501 bodies":                  {colour.World{Bodies: bodies(501)}, api.ErrSize},
		"64 roots":                    {colour.World{Bodies: bodies(1), Roots: make([]int, 64)}, api.OK},
		"65 roots":                    {colour.World{Bodies: bodies(1), Roots: make([]int, 65)}, api.ErrSize},
		"100 entries":                 {world(entries(run(0, 100)...)), api.OK},
		"101 entries":                 {world(entries(run(0, 101)...), entries(-1)), api.ErrSize},
		"100 selectors":               {colour.World{Bodies: []colour.Body{{Selectors: make([]int, 100)}}}, api.OK},
		"101 selectors":               {colour.World{Bodies: []colour.Body{{Selectors: make([]int, 101)}}}, api.ErrSize},
		"101 methods":                 {colour.World{Bodies: []colour.Body{{Methods: make([]int, 101)}}}, api.ErrSize},
		"101 classes made":            {colour.World{Bodies: []colour.Body{{Classes: make([]int, 101)}}}, api.ErrSize},
		"the selector 499":            {world(entries(499)), api.OK},
		"the selector 500":            {world(entries(500)), api.ErrRange},
		"the selector -1":             {world(entries(-1)), api.ErrRange},
		"no method":                   {world([]colour.Entry{{Selector: 0, Method: 1}}), api.ErrRange},
		"the method -1":               {world([]colour.Entry{{Selector: 0, Method: -1}}), api.ErrRange},
		"a selector twice":            {world(entries(3, 3)), api.ErrOrder},
		"a falling one":               {world(entries(3, 2)), api.ErrOrder},
		"a falling one, and a wrong":  {world(entries(3, 2, 500)), api.ErrOrder},
		"a wrong one, and a falling":  {world(entries(3, 500, 2)), api.ErrRange},
		"the first class decides":     {world(entries(3, 2), entries(500)), api.ErrOrder},
		"a body with no selector":     {colour.World{Bodies: []colour.Body{{Selectors: []int{500}}}}, api.ErrRange},
		"a body with no method":       {colour.World{Bodies: []colour.Body{{Methods: []int{1}}}}, api.ErrRange},
		"a body with no class":        {colour.World{Bodies: []colour.Body{{Classes: []int{0}}}}, api.ErrRange},
		"a body with numbers twice":   {colour.World{Bodies: []colour.Body{{Selectors: []int{4, 4, 2}}}}, api.OK},
		"no root":                     {colour.World{Bodies: bodies(1), Roots: []int{0, 1}}, api.ErrRange},
		"entries are ahead of bodies": {colour.World{Classes: [][]colour.Entry{entries(1, 1)}, Bodies: []colour.Body{{Methods: []int{9}}}}, api.ErrOrder},
	} {
		if e := colour.Check(c.w); e != c.e {
			t.Errorf("%s: error %d, want %d", name, e, c.e)
		}
		if c.e == api.OK {
			continue
		}
		_, _, _, e1 := colour.Reach(c.w)
		_, e2 := colour.Conflicts(c.w)
		_, e3 := colour.Colours(c.w)
		e4 := colour.CheckColours(c.w, []int{7})
		_, e5 := colour.Least(c.w)
		_, _, e6 := colour.Grow(c.w, []int{7}, entries(-1))
		_, e7 := colour.Table(c.w, []int{7}, -1)
		_, _, e8 := colour.Pack(c.w, []int{7})
		if l := []api.Errno{e1, e2, e3, e4, e5, e6, e7, e8}; slices.ContainsFunc(l, func(e api.Errno) bool { return e != c.e }) {
			t.Errorf("%s: errors %v, want %d", name, l, c.e)
		}
	}
}

// TestCheckColours is P23.1 for the error of colours.
func TestCheckColours(t *testing.T) {
	w := world(entries(1, 3), entries(3, 4))
	for name, c := range map[string]struct {
		l []int
		e api.Errno
	}{
		"right":                    {[]int{-1, 0, -1, 1, 0}, api.OK},
		"great":                    {[]int{-1, 499, -1, 1, 499}, api.OK},
		"too few":                  {[]int{-1, 0, -1, 1}, api.ErrSize},
		"too many":                 {[]int{-1, 0, -1, 1, 0, -1}, api.ErrSize},
		"too great":                {[]int{-1, 500, -1, 1, 0}, api.ErrRange},
		"none":                     {[]int{-1, -1, -1, 1, 0}, api.ErrRange},
		"-2":                       {[]int{-2, 0, -1, 1, 0}, api.ErrRange},
		"one that nobody asks for": {[]int{0, 0, -1, 1, 0}, api.ErrRange},
		"a clash":                  {[]int{-1, 0, -1, 0, 1}, colour.ErrClash},
		"a clash and a range":      {[]int{-1, 0, -1, 0, 500}, api.ErrRange},
	} {
		if e := colour.CheckColours(w, c.l); e != c.e {
			t.Errorf("%s: error %d, want %d", name, e, c.e)
		}
		if _, e := colour.Table(w, c.l, 0); e != c.e {
			t.Errorf("%s: Table: error %d, want %d", name, e, c.e)
		}
		if _, _, e := colour.Grow(w, c.l, entries(0, 0)); e != c.e && c.e != api.OK || c.e == api.OK && e != api.ErrOrder {
			t.Errorf("%s: Grow: error %d, want %d", name, e, c.e)
		}
	}
	if e := colour.CheckColours(world(), nil); e != api.OK {
		t.Errorf("no classes: error %d", e)
	}
}

// TestExamples are the chapter's.
func TestExamples(t *testing.T) {
	w := world(entries(0, 1), entries(1, 2))
	pairs, e := colour.Conflicts(w)
	least, e2 := colour.Least(w)
	if e != api.OK || e2 != api.OK || told(pairs) != "[[0 1] [1 2]]" || least != 2 {
		t.Errorf("errors %d %d: %v, %d", e, e2, pairs, least)
	}
	l := []int{0, 1, 0}
	first, _ := colour.Table(w, l, 0)
	second, _ := colour.Table(w, l, 1)
	vector, offsets, e := colour.Pack(w, l)
	if e != api.OK || told(first) != "[{0 0} {1 0}]" || told(second) != "[{2 0} {1 0}]" || told(offsets) != "[0 2]" || told(vector) != "[{0 0} {1 0} {2 0} {1 0}]" {
		t.Errorf("error %d: tables %v and %v, packed %v with %v", e, first, second, vector, offsets)
	}
	next, changed, e := colour.Grow(w, l, entries(0, 2))
	if e != api.OK || told(next) != "[0 1 2]" || told(changed) != "[2]" {
		t.Errorf("error %d: %v, changed %v", e, next, changed)
	}
	if _, e := colour.Table(w, l, 2); e != api.ErrNone {
		t.Errorf("no class: error %d", e)
	}
	if _, e := colour.Table(w, l, -1); e != api.ErrNone {
		t.Errorf("the class -1: error %d", e)
	}
}

// TestPackEdges has tables without entries, and with slots that nothing fills.
func TestPackEdges(t *testing.T) {
	w := world(nil, entries(0, 2), nil, entries(1), entries(3))
	vector, offsets, e := colour.Pack(w, []int{0, 0, 2, 1})
	if e != api.OK || told(offsets) != "[0 1 2 4 5]" || told(vector) != "[{-1 -1} {0 0} {-1 -1} {2 0} {1 0} {-1 -1} {3 0}]" {
		t.Errorf("error %d: %v with %v", e, vector, offsets)
	}
	for _, c := range []struct{ class, selector, want int }{{1, 0, 0}, {1, 1, -1}, {1, 2, 0}, {3, 1, 0}, {0, 0, -1}, {-1, 0, -1}, {5, 0, -1}, {1, -1, -1}, {1, 4, -1}} {
		if got := colour.Lookup(vector, offsets, []int{0, 0, 2, 1}, c.class, c.selector); got != c.want {
			t.Errorf("Lookup of %d %d is %d, want %d", c.class, c.selector, got, c.want)
		}
	}
	const most = 1<<63 - 1
	slots := []colour.Slot{{Selector: 0, Method: 7}, {Selector: 1, Method: 8}}
	for _, c := range []struct{ offset, colour, want int }{{0, 0, 7}, {1, 0, -1}, {-3, 3, 7}, {0, -1, -1}, {1, -1, -1}, {most, most, -1}, {2, 0, -1}, {-1, 0, -1}, {-most, most, 7}} {
		if got := colour.Lookup(slots, []int{c.offset}, []int{c.colour}, 0, 0); got != c.want {
			t.Errorf("Lookup at %d with %d is %d, want %d", c.offset, c.colour, got, c.want)
		}
	}
}

// drawn returns a drawn world.
func drawn(m *draw.Maker) colour.World {
	w := colour.World{Bodies: make([]colour.Body, 1+m.Below(12))}
	top := 2 + m.Below(10)
	for range m.Below(8) {
		var c []colour.Entry
		for s := range top {
			if m.Below(3) == 0 {
				c = append(c, colour.Entry{Selector: s, Method: m.Below(len(w.Bodies))})
			}
		}
		w.Classes = append(w.Classes, c)
	}
	some := func(n int) []int {
		var l []int
		for range m.Below(3) {
			if n > 0 {
				l = append(l, m.Below(n))
			}
		}
		return l
	}
	for b := range w.Bodies {
		w.Bodies[b] = colour.Body{Selectors: some(top), Methods: some(len(w.Bodies)), Classes: some(len(w.Classes))}
	}
	w.Roots = some(len(w.Bodies))
	return w
}

// TestReach is P23.2.
func TestReach(t *testing.T) {
	for seed := range uint64(1500) {
		m := draw.New(seed)
		w := drawn(m)
		methods, classes, selectors, e := colour.Reach(w)
		if e != api.OK {
			t.Fatalf("seed %d: error %d", seed, e)
		}
		in, made, called := map[int]bool{}, map[int]bool{}, map[int]bool{}
		for _, r := range w.Roots {
			in[r] = true
		}
		for changed := true; changed; {
			before := len(in) + len(made) + len(called)
			for b := range len(w.Bodies) {
				if !in[b] {
					continue
				}
				for _, x := range w.Bodies[b].Methods {
					in[x] = true
				}
				for _, x := range w.Bodies[b].Classes {
					made[x] = true
				}
				for _, x := range w.Bodies[b].Selectors {
					called[x] = true
				}
			}
			for c, l := range w.Classes {
				for _, x := range l {
					if made[c] && called[x.Selector] {
						in[x.Method] = true
					}
				}
			}
			changed = len(in)+len(made)+len(called) > before
		}
		sorted := func(s map[int]bool) []int {
			var l []int
			for k := range s {
				l = append(l, k)
			}
			slices.Sort(l)
			return l
		}
		if !slices.Equal(methods, sorted(in)) || !slices.Equal(classes, sorted(made)) || !slices.Equal(selectors, sorted(called)) {
			t.Fatalf("seed %d: %v %v %v, want %v %v %v", seed, methods, classes, selectors, sorted(in), sorted(made), sorted(called))
		}
		w.Roots = append(w.Roots, m.Below(len(w.Bodies)))
		more, _, _, _ := colour.Reach(w)
		for _, x := range methods {
			if !slices.Contains(more, x) {
				t.Fatalf("seed %d: with more roots %d is not reached", seed, x)
			}
		}
	}
}

// conflict reports whether a class understands two selectors.
func conflict(w colour.World, a, b int) bool {
	return a != b && slices.ContainsFunc(w.Classes, func(c []colour.Entry) bool {
		has := func(s int) bool { return slices.ContainsFunc(c, func(x colour.Entry) bool { return x.Selector == s }) }
		return has(a) && has(b)
	})
}

// TestColours is P23.3, P23.4 and P23.5 for drawn worlds.
func TestColours(t *testing.T) {
	moved := 0
	for seed := range uint64(1500) {
		m := draw.New(seed)
		w := drawn(m)
		l, e := colour.Colours(w)
		if e != api.OK || colour.CheckColours(w, l) != api.OK {
			t.Fatalf("seed %d: errors %d %d: %v", seed, e, colour.CheckColours(w, l), l)
		}
		most, degree, different := -1, 0, map[int]bool{}
		var pairs [][2]int
		for s, c := range l {
			most = max(most, c)
			n := 0
			for o := range l {
				if conflict(w, s, o) {
					n++
					if s < o {
						pairs = append(pairs, [2]int{s, o})
					}
				}
			}
			degree = max(degree, n)
			if c >= 0 {
				different[c] = true
			}
		}
		if most > degree || len(different) != most+1 {
			t.Fatalf("seed %d: colours %v, where a selector has at most %d conflicts", seed, l, degree)
		}
		if got, _ := colour.Conflicts(w); told(got) != told(pairs) {
			t.Fatalf("seed %d: conflicts %v, want %v", seed, got, pairs)
		}
		least, e := colour.Least(w)
		if want := fewest(w, l); e != api.OK || least != want || least > len(different) {
			t.Fatalf("seed %d: at least %d, error %d, want %d", seed, least, e, want)
		}
		for _, c := range w.Classes {
			if len(c) > least {
				t.Fatalf("seed %d: a class has %d entries, and %d colours are enough", seed, len(c), least)
			}
		}
		packed(t, seed, w, l)
		if grown(t, seed, m, w, l, least) {
			moved++
		}
	}
	if moved < 100 {
		t.Errorf("%d times colours changed", moved)
	}
}

// fewest returns how many colours are needed, by trying all ways.
func fewest(w colour.World, like []int) int {
	var understood []int
	for s, c := range like {
		if c >= 0 {
			understood = append(understood, s)
		}
	}
	best := len(understood)
	chosen := map[int]int{}
	var try func(at, used int)
	try = func(at, used int) {
		if used >= best && at > 0 {
			return
		}
		if at == len(understood) {
			best = used
			return
		}
		for c := range used + 1 {
			ok := true
			for _, o := range understood[:at] {
				ok = ok && (chosen[o] != c || !conflict(w, o, understood[at]))
			}
			if ok {
				chosen[understood[at]] = c
				try(at+1, max(used, c+1))
			}
		}
	}
	try(0, 0)
	return best
}

// packed is P23.4.
func packed(t *testing.T, seed uint64, w colour.World, l []int) {
	t.Helper()
	vector, offsets, e := colour.Pack(w, l)
	if e != api.OK || len(offsets) != len(w.Classes) {
		t.Fatalf("seed %d: Pack: error %d", seed, e)
	}
	filled, taken, far := map[int]bool{}, map[int]bool{}, 0
	for c, entries := range w.Classes {
		table, _ := colour.Table(w, l, c)
		fits := func(at int) bool {
			return !taken[at] && !slices.ContainsFunc(entries, func(x colour.Entry) bool { return filled[at+l[x.Selector]] })
		}
		want := 0
		for !fits(want) {
			want++
		}
		if offsets[c] != want {
			t.Fatalf("seed %d: the offset of %d is %d, want %d", seed, c, offsets[c], want)
		}
		taken[want] = true
		far = max(far, want+len(table))
		top := 0
		for _, x := range entries {
			at := l[x.Selector]
			filled[want+at] = true
			top = max(top, at+1)
			if vector[want+at] != (colour.Slot(x)) || table[at] != (colour.Slot(x)) {
				t.Fatalf("seed %d: the slot of %v is %v", seed, x, vector[want+at])
			}
		}
		if len(table) != top {
			t.Fatalf("seed %d: the table of %d is %v", seed, c, table)
		}
		for s := range len(l) + 1 {
			method := -1
			for _, x := range entries {
				if x.Selector == s {
					method = x.Method
				}
			}
			if got := colour.Lookup(vector, offsets, l, c, s); got != method {
				t.Fatalf("seed %d: Lookup of %d %d is %d, want %d", seed, c, s, got, method)
			}
		}
	}
	for at, x := range vector {
		if !filled[at] && x != (colour.Slot{Selector: -1, Method: -1}) {
			t.Fatalf("seed %d: at %d stands %v", seed, at, x)
		}
	}
	if len(vector) != far {
		t.Fatalf("seed %d: the vector has %d places, want %d", seed, len(vector), far)
	}
}

// grown is P23.5; it reports whether colours changed.
func grown(t *testing.T, seed uint64, m *draw.Maker, w colour.World, l []int, least int) bool {
	t.Helper()
	var class []colour.Entry
	for s := range 12 {
		if m.Below(3) == 0 {
			class = append(class, colour.Entry{Selector: s})
		}
	}
	next, changed, e := colour.Grow(w, l, class)
	if e != api.OK {
		t.Fatalf("seed %d: Grow: error %d", seed, e)
	}
	more := w
	more.Classes = append(slices.Clone(w.Classes), class)
	if e := colour.CheckColours(more, next); e != api.OK {
		t.Fatalf("seed %d: Grow: the colours %v of %v have the error %d", seed, next, more.Classes, e)
	}
	want := append(slices.Clone(l), make([]int, len(next)-len(l))...)
	for s := len(l); s < len(want); s++ {
		want[s] = -1
	}
	var moved []int
	for i, x := range class {
		now := want[x.Selector]
		clash := slices.ContainsFunc(class[:i], func(y colour.Entry) bool { return want[y.Selector] == now })
		if now >= 0 && !clash {
			continue
		}
		c := 0
		for slices.ContainsFunc(run(0, len(want)), func(o int) bool { return conflict(more, x.Selector, o) && want[o] == c }) {
			c++
		}
		want[x.Selector] = c
		if now >= 0 {
			moved = append(moved, x.Selector)
		}
	}
	if !slices.Equal(next, want) || !slices.Equal(changed, moved) {
		t.Fatalf("seed %d: Grow by %v: %v, changed %v; want %v and %v", seed, class, next, changed, want, moved)
	}
	if n, e := colour.Least(more); e == api.OK && n < least {
		t.Fatalf("seed %d: with one more class %d colours are enough, not %d", seed, n, least)
	}
	slices.Reverse(more.Classes)
	if n, e := colour.Least(more); e == api.OK && n < least {
		t.Fatalf("seed %d: in another order %d colours are enough", seed, n)
	}
	return len(moved) > 0
}

// TestLeastEdges has the limits of Least.
func TestLeastEdges(t *testing.T) {
	for name, c := range map[string]struct {
		w    colour.World
		want int
		e    api.Errno
	}{
		"nothing":       {world(), 0, api.OK},
		"empty classes": {world(nil, nil), 0, api.OK},
		"one":           {world(entries(499)), 1, api.OK},
		"twelve":        {world(entries(run(100, 12)...)), 12, api.OK},
		"thirteen":      {world(entries(run(100, 12)...), entries(400)), 0, api.ErrFull},
		"a circle":      {world(entries(0, 1), entries(1, 2), entries(2, 3), entries(3, 4), entries(0, 4)), 3, api.OK},
	} {
		if n, e := colour.Least(c.w); n != c.want || e != c.e {
			t.Errorf("%s: %d, error %d", name, n, e)
		}
	}
	var classes [][]colour.Entry
	for i := range 200 {
		classes = append(classes, entries(run(i*2, 100)...))
	}
	w := world(classes...)
	l, e := colour.Colours(w)
	if e != api.OK || colour.CheckColours(w, l) != api.OK {
		t.Errorf("200 great classes: errors %d %d", e, colour.CheckColours(w, l))
	}
	if _, _, e := colour.Grow(w, l, nil); e != api.ErrSize {
		t.Errorf("one class more than there may be: error %d", e)
	}
	if _, _, e := colour.Pack(w, l); e != api.OK {
		t.Errorf("Pack: error %d", e)
	}
}

// TestOf is P23.1 for the world of a program.
func TestOf(t *testing.T) {
	named := func(name string) api.Type { return api.Type{Kind: api.TypeName, Name: name, Cap: api.Val} }
	body := func(name string, l ...ssa.Ins) ssa.Func {
		for i := range l {
			l[i].Result = i + 1
		}
		return ssa.Func{Name: name, Params: make([]api.Type, 1), Blocks: []ssa.Block{{Ins: l, End: ssa.End{Kind: ssa.Return, Args: []int{0}}}}}
	}
	all := body("main.A.go",
		ssa.Ins{Op: ssa.Call, Text: "size", Args: []int{0}},
		ssa.Ins{Op: ssa.Send, Text: "go", Args: []int{0}},
		ssa.Ins{Op: ssa.Call, Text: "size", Args: []int{0}},
		ssa.Ins{Op: ssa.Direct, Text: "main.C.get", Args: []int{0}},
		ssa.Ins{Op: ssa.Spawn, Name: "main.A", Text: "go"},
		ssa.Ins{Op: ssa.Spawn, Name: "main.B", Text: "none"},
		ssa.Ins{Op: ssa.Make, Text: "main.C"},
		ssa.Ins{Op: ssa.Const, Type: named("U8")},
		ssa.Ins{Op: ssa.Const, Type: api.Type{Kind: api.TypeParam, Name: "main.P"}},
		ssa.Ins{Op: ssa.Native, Text: "x", Type: named("Bool")},
		ssa.Ins{Op: ssa.Text, Type: named("main.T")},
		ssa.Ins{Op: ssa.Is, Args: []int{0, 0}, Type: named("main.P")},
	)
	tried := body("main.C.put")
	tried.Blocks = []ssa.Block{
		{End: ssa.End{Kind: ssa.Try, To: []int{1, 2}, Call: ssa.Ins{Op: ssa.Call, Text: "tried", Args: []int{0}, Result: 1}}},
		{End: ssa.End{Kind: ssa.Stuck}},
		{End: ssa.End{Kind: ssa.Try, To: []int{3, 4}, Call: ssa.Ins{Op: ssa.Direct, Text: "free", Args: []int{0}, Result: 2}}},
		{End: ssa.End{Kind: ssa.Stuck}},
		{End: ssa.End{Kind: ssa.Stuck}},
	}
	p := ssa.Program{
		Entities: []api.Entity{
			{Kind: api.Primitive, Name: "U8"}, {Kind: api.Class, Name: "String"}, {Kind: api.Trait, Name: "main.T"}, {Kind: api.Class, Name: "main"},
			{Kind: api.Class, Name: "main.C"}, {Kind: api.Actor, Name: "main.A"}, {Kind: api.Class, Name: "main.C"}, {Kind: api.Primitive, Name: "main.P"}, {Kind: api.Primitive, Name: "Bool"},
		},
		Funcs: []ssa.Func{body("main.C.get"), tried, all, body("free"), body("main.T.get"), body("U8.")},
	}
	w, classes, selectors, methods, e := colour.Of(p, []string{"main.A.go", "free"})
	// The class main fits each name ahead of main.C: the parts are those behind it.
	if e != api.OK || told(classes) != "[U8 String main main.C main.A main.C main.P Bool]" || told(methods) != "[main.C.get main.C.put main.A.go free main.T.get U8.]" || told(selectors) != "[ A.go C.get C.put T.get go size tried]" {
		t.Fatalf("error %d: %v, %q, %v", e, classes, selectors, methods)
	}
	want := colour.World{
		Classes: [][]colour.Entry{{{0, 5}}, nil, {{1, 2}, {2, 0}, {3, 1}, {4, 4}}, nil, {{5, 2}}, nil, nil, nil},
		Bodies:  []colour.Body{{}, {Selectors: []int{7}, Methods: []int{3}}, {Selectors: []int{5, 6}, Methods: []int{0, 2}, Classes: []int{0, 1, 3, 4, 7}}, {}, {}, {}},
		Roots:   []int{2, 3},
	}
	if told(w) != told(want) {
		t.Errorf("it is %v, want %v", w, want)
	}
	if _, _, _, _, e := colour.Of(p, []string{"free", "none"}); e != api.ErrNone {
		t.Errorf("no root: error %d", e)
	}
	if _, _, _, _, e := colour.Of(p, make([]string, 70)); e != api.ErrNone {
		t.Errorf("70 names of nothing: error %d", e)
	}
	if _, _, _, _, e := colour.Of(p, slices.Repeat([]string{"free"}, 65)); e != api.ErrSize {
		t.Errorf("65 roots: error %d", e)
	}
	p.Funcs = append(p.Funcs, p.Funcs[0])
	if _, _, _, _, e := colour.Of(p, []string{"none"}); e != api.ErrTwice {
		t.Errorf("a wrong program: error %d", e)
	}
	var calls []ssa.Ins
	for i := range 501 {
		calls = append(calls, ssa.Ins{Op: ssa.Call, Text: "s" + strings.Repeat("x", i/100) + told(i), Args: []int{0}})
	}
	if _, _, _, _, e := colour.Of(ssa.Program{Funcs: []ssa.Func{body("f", calls...)}}, []string{"none"}); e != api.ErrSize {
		t.Errorf("501 selectors: error %d", e)
	}
	if _, _, _, _, e := colour.Of(ssa.Program{Funcs: []ssa.Func{body("f", calls[:500]...)}}, []string{"none"}); e != api.ErrNone {
		t.Errorf("500 selectors: error %d", e)
	}
	if _, _, _, _, e := colour.Of(ssa.Program{Funcs: []ssa.Func{body("f", calls[:101]...)}}, nil); e != api.ErrSize {
		t.Errorf("a body with 101 selectors: error %d", e)
	}
	if _, _, s, _, e := colour.Of(ssa.Program{Funcs: []ssa.Func{body("f", calls[:100]...)}}, nil); e != api.OK || len(s) != 100 {
		t.Errorf("a body with 100 selectors: error %d", e)
	}
}
