package matching_test

import (
	"math/rand"
	"reflect"
	"slices"
	"strconv"
	"strings"
	"testing"

	"hackamore/api"
	"hackamore/draw"
	"hackamore/matching"
	"hackamore/subtype"
)

type (
	tree = matching.Tree
	sort = matching.Sort
)

// drawnCases returns some cases.
func drawnCases(r *rand.Rand, leaves, depth int) []kase {
	var l []kase
	for range r.Intn(5) {
		l = append(l, kase{drawn(r, leaves, depth), r.Intn(3) == 0})
	}
	return l
}

// firstOf returns the first value that a normal pattern takes.
func firstOf(p pattern) value {
	if len(p[0].Kids) == 0 {
		return value{Leaf: p[0].Leaves[0]}
	}
	v := value{}
	for _, k := range p[0].Kids {
		v.Kids = append(v.Kids, firstOf(k))
	}
	return v
}

// pathsOf collects the paths of a pattern.
func pathsOf(p pattern, path string, all map[string]bool) {
	if len(p) > 0 {
		all[path] = true
	}
	for _, x := range p {
		for i, k := range x.Kids {
			pathsOf(k, path+string(rune('0'+i)), all)
		}
	}
}

func countTrees(t tree) (trees, tests int) {
	trees = 1
	for _, k := range t.Kids {
		n, m := countTrees(k)
		trees += n
		tests = max(tests, m)
	}
	if t.Kind == matching.Test {
		tests++
	}
	return trees, tests
}

// TestMatches is P12.3 and P12.4 for drawn matches.
func TestMatches(t *testing.T) {
	r := rand.New(rand.NewSource(5))
	all := map[int][]value{1: universe(3, 1), 2: universe(3, 2), 3: universe(2, 3)}
	exhaustive, unreachable := 0, 0
	for i := range 1500 {
		depth := 1 + r.Intn(3)
		leaves := 3 - depth/3
		operand, l := drawn(r, leaves, depth), drawnCases(r, leaves, depth)
		if i%4 == 0 {
			l = append(l, kase{Pattern: operand})
		}
		values := taken(all[depth], func(v value) bool { return takes(t, leaves, operand, v) })
		missed := normal(taken(values, func(v value) bool {
			return !slices.ContainsFunc(l, func(c kase) bool { return !c.Guard && takes(t, leaves, c.Pattern, v) })
		}))
		ok, v, e := matching.Exhaustive(leaves, operand, l)
		if e != api.OK || ok != (len(missed) == 0) || !ok && showValue(v) != showValue(firstOf(missed)) {
			t.Fatalf("Exhaustive: %v, %s, error %d; missed is %s", ok, showValue(v), e, show(missed))
		}
		var never []int
		for j, c := range l {
			reached := slices.ContainsFunc(values, func(v value) bool {
				return takes(t, leaves, c.Pattern, v) && !slices.ContainsFunc(l[:j], func(c kase) bool { return !c.Guard && takes(t, leaves, c.Pattern, v) })
			})
			if !reached {
				never = append(never, j)
			}
		}
		if got, e := matching.Unreachable(leaves, operand, l); e != api.OK || !slices.Equal(got, never) {
			t.Fatalf("Unreachable: %v, error %d, want %v", got, e, never)
		}
		if ok {
			exhaustive++
		}
		unreachable += len(never)
		decided(t, r, leaves, operand, l, values, ok)
	}
	if exhaustive < 300 || unreachable < 300 {
		t.Errorf("%d are exhaustive, %d cases unreachable", exhaustive, unreachable)
	}
}

// decided asks of the tree of a match what P12.4 says.
func decided(t *testing.T, r *rand.Rand, leaves int, operand pattern, l []kase, values []value, exhaustive bool) {
	t.Helper()
	d, e := matching.Decide(leaves, operand, l)
	if e != api.OK || matching.CheckTree(leaves, len(l), d) != api.OK {
		t.Fatalf("Decide: error %d, CheckTree: error %d", e, matching.CheckTree(leaves, len(l), d))
	}
	paths := map[string]bool{}
	pathsOf(operand, "", paths)
	for _, c := range l {
		pathsOf(c.Pattern, "", paths)
	}
	if _, tests := countTrees(d); tests > len(paths) {
		t.Fatalf("%d tests, %d paths", tests, len(paths))
	}
	for range 20 {
		if len(values) == 0 {
			return
		}
		v, holds := values[r.Intn(len(values))], make([]bool, len(l))
		for i := range holds {
			holds[i] = r.Intn(2) == 0
		}
		want, _ := matching.Taken(leaves, l, v, holds)
		got, tests, e := matching.Run(leaves, d, v, holds)
		if e != api.OK || got != want || tests > len(paths) || exhaustive && got < 0 {
			t.Fatalf("%s: %d, want %d, error %d", showValue(v), got, want, e)
		}
	}
}

// TestSmallTrees is P12.1: for patterns of at most 20 parts there is a tree.
func TestSmallTrees(t *testing.T) {
	r := rand.New(rand.NewSource(6))
	most := 0
	for range 1500 {
		leaves := 1 + r.Intn(40)
		operand := drawnWide(r, leaves, 1+r.Intn(3))
		left := 20 - count(operand)
		var l []kase
		for range 40 {
			p := drawnWide(r, leaves, 1+r.Intn(4))
			if n := count(p); n > 0 && n <= left {
				left -= n
				l = append(l, kase{p, r.Intn(2) == 0})
			}
		}
		if left < 0 {
			continue
		}
		d, e := matching.Decide(leaves, operand, l)
		if e != api.OK {
			t.Fatalf("error %d", e)
		}
		trees, _ := countTrees(d)
		most = max(most, trees)
	}
	if most < 50 || most > 1000 {
		t.Errorf("the greatest tree has %d trees", most)
	}
}

// drawnWide returns a pattern with long tuples.
func drawnWide(r *rand.Rand, leaves, depth int) pattern {
	if depth == 1 || r.Intn(6) == 0 {
		x := part{Leaves: []int{r.Intn(leaves)}}
		for n := x.Leaves[0] + 1; n < leaves; n++ {
			if r.Intn(2) == 0 {
				x.Leaves = append(x.Leaves, n)
			}
		}
		return pattern{x}
	}
	var p pattern
	for range 1 + r.Intn(2) {
		x := part{}
		for range 2 + r.Intn(3) {
			x.Kids = append(x.Kids, drawnWide(r, leaves, depth-1))
		}
		p = append(p, x)
	}
	return p
}

// TestFull is P12.1 for trees that would be too large, and for the greatest patterns there may be.
func TestFull(t *testing.T) {
	var l []kase
	for k := range 7 {
		l = append(l, kase{pattern{tuple(bits(128, k), bits(128, 6-k), bits(128, k), bits(128, k*3%7))}, true})
	}
	all := pattern{{}}
	for i := range 128 {
		all[0].Leaves = append(all[0].Leaves, i)
	}
	whole := pattern{tuple(all, all, all, all)}
	if d, e := matching.Decide(128, whole, l); e != api.ErrFull || !reflect.DeepEqual(d, tree{}) {
		t.Errorf("Decide: error %d", e)
	}
	if d, e := matching.Decide(128, whole, l[:3]); e != api.OK || matching.CheckTree(128, 3, d) != api.OK {
		t.Errorf("Decide of three cases: error %d", e)
	}
	l = nil
	for k := range 64 {
		var p pattern
		for i := range 40 {
			p = append(p, tuple(one(k), one(i), bits(128, i%7), bits(128, k%7)))
		}
		l = append(l, kase{p, false})
	}
	if never, e := matching.Unreachable(128, whole, l); e != api.OK || len(never) != 0 && len(never) > 40 {
		t.Errorf("Unreachable: %v, error %d", never, e)
	}
	if ok, v, e := matching.Exhaustive(128, whole, l); ok || e != api.OK || showValue(v) != "(0; 0; 0; 0)" {
		t.Errorf("Exhaustive: %s, error %d", showValue(v), e)
	}
	if _, e := matching.Decide(128, whole, l); e != api.OK && e != api.ErrFull {
		t.Errorf("Decide of many cases: error %d", e)
	}
}

// TestCheckTree is P12.1 for trees that are none.
func TestCheckTree(t *testing.T) {
	fail, take := tree{}, tree{Kind: matching.Take, Case: 1}
	test := func(path []int, s []sort, kids ...tree) tree {
		return tree{Kind: matching.Test, Path: path, Sorts: s, Kids: kids}
	}
	leaf := []sort{{Leaves: []int{0, 2}}}
	pair := []sort{{Arity: 2}}
	deep := func(path []int, kid tree) tree { // tests all that is ahead of a path
		for i := len(path) - 1; i >= 0; i-- {
			kid = test(path[:i], []sort{{Arity: 4}}, kid)
		}
		return kid
	}
	long := func(n int) tree {
		x := fail
		for range n - 1 {
			x = tree{Kind: matching.Take, Kids: []tree{x}}
		}
		return x
	}
	for i, x := range []struct {
		leaves, cases int
		t             tree
		want          api.Errno
	}{
		{-1, -1, tree{Kind: 9}, api.ErrArg}, {201, 1, fail, api.ErrArg}, {3, -1, tree{Kind: 9}, api.ErrSize}, {3, 65, tree{Kind: 9}, api.ErrSize}, {0, 0, fail, api.OK}, {200, 64, fail, api.OK},
		{3, 2, tree{Kind: 3}, matching.ErrTree}, {3, 2, tree{Kind: -1}, matching.ErrTree},
		{3, 2, tree{Case: 1}, matching.ErrTree}, {3, 2, tree{Path: []int{0}}, matching.ErrTree}, {3, 2, tree{Sorts: leaf}, matching.ErrTree}, {3, 2, tree{Kids: []tree{fail}}, matching.ErrTree},
		{3, 2, take, api.OK}, {3, 1, take, matching.ErrTree}, {3, 2, tree{Kind: 1, Case: -1}, matching.ErrTree}, {3, 2, tree{Kind: 1, Kids: []tree{take}}, api.OK}, {3, 2, tree{Kind: 1, Kids: []tree{take, take}}, matching.ErrTree},
		{3, 2, tree{Kind: 1, Path: []int{0}}, matching.ErrTree}, {3, 2, tree{Kind: 1, Sorts: leaf}, matching.ErrTree}, {3, 2, tree{Kind: 1, Kids: []tree{{Kind: 3}}}, matching.ErrTree},
		{3, 2, test(nil, leaf, take), api.OK}, {3, 2, test(nil, leaf), matching.ErrTree}, {3, 2, test(nil, nil), matching.ErrTree}, {3, 2, test(nil, leaf, take, take), matching.ErrTree}, {3, 2, tree{Kind: 2, Case: 1, Sorts: leaf, Kids: []tree{take}}, matching.ErrTree},
		{2, 2, test(nil, leaf, take), matching.ErrTree}, {3, 2, test(nil, []sort{{Leaves: []int{0, 2}, Arity: 2}}, take), matching.ErrTree}, {3, 2, test(nil, []sort{{}}, take), matching.ErrTree}, {3, 2, test(nil, []sort{{Arity: 1}}, take), matching.ErrTree}, {3, 2, test(nil, []sort{{Arity: 5}}, take), matching.ErrTree}, {3, 2, test(nil, []sort{{Arity: 4}}, take), api.OK},
		{3, 2, test(nil, []sort{{Leaves: []int{1, 0}}}, take), matching.ErrTree}, {3, 2, test(nil, []sort{{Leaves: []int{0, 0}}}, take), matching.ErrTree}, {3, 2, test(nil, []sort{{Leaves: []int{-1}}}, take), matching.ErrTree},
		{3, 2, test(nil, []sort{{Leaves: []int{0, 2}}, {Leaves: []int{1, 2}}}, take, take), matching.ErrTree}, {3, 2, test(nil, []sort{{Leaves: []int{0, 2}}, {Leaves: []int{1}}, {Arity: 2}, {Arity: 3}}, take, fail, take, take), api.OK}, {3, 2, test(nil, []sort{{Arity: 3}, {Arity: 3}}, take, take), matching.ErrTree},
		{3, 2, test([]int{0}, leaf, take), matching.ErrTree}, {3, 2, test(nil, leaf, test([]int{0}, leaf, take)), matching.ErrTree}, {3, 2, test(nil, pair, test([]int{1}, leaf, take)), api.OK}, {3, 2, test(nil, pair, test([]int{2}, leaf, take)), matching.ErrTree}, {3, 2, test(nil, pair, test([]int{-1}, leaf, take)), matching.ErrTree},
		{3, 2, test(nil, pair, test(nil, leaf, take)), matching.ErrTree}, {3, 2, test(nil, pair, test([]int{1}, leaf, test([]int{0}, leaf, test([]int{1}, leaf, take)))), matching.ErrTree}, {3, 2, test(nil, pair, test([]int{1}, leaf, test([]int{0}, leaf, take))), api.OK},
		{3, 2, test(nil, pair, tree{Kind: 1, Kids: []tree{test([]int{1}, leaf, take)}}), api.OK}, {3, 2, test(nil, []sort{{Arity: 2}, {Arity: 3}}, test([]int{1}, leaf, take), test([]int{1}, leaf, test([]int{2}, leaf, take))), api.OK}, {3, 2, test(nil, []sort{{Arity: 3}, {Arity: 2}}, test([]int{2}, pair, take), test([]int{2}, leaf, take)), matching.ErrTree},
		{3, 2, deep([]int{3, 3, 3}, test([]int{3, 3, 3}, leaf, take)), api.OK}, {3, 2, deep([]int{3, 3, 3, 3}, test([]int{3, 3, 3, 3}, leaf, take)), matching.ErrTree}, {3, 2, test(nil, pair, test([]int{0, 0}, leaf, take)), matching.ErrTree},
		{3, 2, long(5000), api.OK}, {3, 2, long(5001), matching.ErrTree},
	} {
		if e := matching.CheckTree(x.leaves, x.cases, x.t); e != x.want {
			t.Errorf("tree %d: error %d, want %d", i, e, x.want)
		}
		if n, tests, e := matching.Run(x.leaves, x.t, value{}, make([]bool, max(x.cases, 0))); x.cases >= 0 && x.leaves > 0 && (e != x.want || e != api.OK && n+tests != 0) {
			t.Errorf("tree %d: Run: %d, %d, error %d", i, n, tests, e)
		}
	}
	d := test(nil, []sort{{Leaves: []int{0}}, {Arity: 2}}, take, test([]int{1}, leaf, tree{Kind: 1, Kids: []tree{take}}))
	for s, want := range map[string][2]int{"0": {1, 1}, "1": {-1, 1}, "(0; 0)": {1, 2}, "(0; 1)": {-1, 2}, "(0; 0; 0)": {-1, 1}, "(0; (0; 0))": {-1, 2}} {
		n, tests, e := matching.Run(3, d, readValue(t, s), make([]bool, 2))
		if e != api.OK || n != want[0] || tests != want[1] {
			t.Errorf("Run of %s: %d, %d, error %d", s, n, tests, e)
		}
	}
	if n, _, _ := matching.Run(3, d, readValue(t, "(0; 0)"), []bool{true, false}); n != 0 {
		t.Errorf("Run with a guard that holds: %d", n)
	}
}

func named(kind int, name string, provides ...string) api.Entity {
	x := api.Entity{Kind: kind, Name: name}
	for _, s := range provides {
		x.Provides = append(x.Provides, api.Type{Kind: api.TypeName, Name: s, Cap: api.Ref})
	}
	return x
}

// readType reads a type of names with `|`, `&` or `,` between them, in round brackets.
func readType(s string) api.Type {
	s = strings.TrimSpace(s)
	inside, ok := strings.CutPrefix(s, "(")
	if !ok {
		return api.Type{Kind: api.TypeName, Name: s, Cap: api.Iso, Mark: api.Aliased}
	}
	inside = strings.TrimSuffix(inside, ")")
	for _, kind := range []int{api.TypeUnion, api.TypeBoth, api.TypeTuple, api.TypeArrow} {
		l := split(inside, "???|&,>"[kind])
		if len(l) < 2 {
			continue
		}
		t := api.Type{Kind: kind}
		for _, k := range l {
			t.Args = append(t.Args, readType(k))
		}
		return t
	}
	return readType(inside)
}

// TestOf is P12.1 and P12.5 for patterns of types.
func TestOf(t *testing.T) {
	m := api.Method{Kind: api.Fun, Name: "m", Cap: api.Ref, Result: api.Type{Kind: api.TypeName, Name: "C", Cap: api.Val}}
	p := []api.Entity{named(api.Interface, "Any"), named(api.Class, "C", "T"), named(api.Trait, "T", "S"), named(api.Actor, "A", "S"), named(api.Trait, "S"), named(api.Primitive, "P"), named(api.Interface, "I"), named(api.Class, "C", "S")}
	p[3].Methods, p[6].Methods = []api.Method{m}, []api.Method{m}
	if l := matching.Leaves(p); strings.Join(l, " ") != "C A P C" {
		t.Errorf("Leaves: %v", l)
	}
	p = p[:7]
	if l := matching.Leaves(p); strings.Join(l, " ") != "C A P" {
		t.Errorf("Leaves: %v", l)
	}
	for s, want := range map[string]string{
		"C": "0", "P": "2", "T": "0", "S": "0 1", "Any": "0 1 2", "I": "1", "(T | P)": "0 2", "(S & I)": "1", "(T & P)": "", "(T, (P | I))": "(0; 1 2)", "((C, Any) & (Any, P) & (C | (C, C) | (C, P)))": "(0; 2)", "(C > (P | A))": "1 2", "(X > P)": "2",
		"(T | (C, C) | ((C, C), C))": "0 | (0 | (0; 0); 0)", "((T & P), C)": "", "(C, C, C, C)": "(0; 0; 0; 0)", "(((C, C), C), C)": "(((0; 0); 0); 0)",
	} {
		is(t, "Of "+s, want, result(matching.Of(p, readType(s))))
	}
	other := func(kind int, args ...api.Type) api.Type { return api.Type{Kind: kind, Args: args} }
	c := readType("C")
	for i, x := range []struct {
		t    api.Type
		want api.Errno
	}{
		{readType("X"), api.ErrNone}, {api.Type{Kind: api.TypeParam, Name: "C"}, api.ErrType}, {api.Type{Kind: api.TypeSelf}, api.ErrType}, {api.Type{}, api.ErrForm}, {api.Type{Kind: 8}, api.ErrForm}, {api.Type{Kind: api.TypeName, Name: "X", Args: []api.Type{c}}, api.ErrForm},
		{other(api.TypeUnion, readType("X")), api.ErrForm}, {other(api.TypeBoth), api.ErrForm}, {other(api.TypeTuple, c), api.ErrForm}, {other(api.TypeArrow, c), api.ErrForm}, {other(api.TypeArrow, c, c, c), api.ErrForm}, {other(api.TypeArrow, api.Type{}, c), api.OK},
		{other(api.TypeTuple, c, c, c, c, api.Type{}), matching.ErrPattern}, {readType("((((C, C), C), C), C)"), matching.ErrPattern}, {readType("((((C, X), C), C), C)"), matching.ErrPattern}, {readType("(X | ((((C, C), C), C), C))"), api.ErrNone},
		{readType("(C, (C | (C & (C > (C, (C, C))))))"), api.OK}, {readType("(C, (C | (C & (C > (C, (C, (C | (C, C))))))))"), matching.ErrPattern}, {other(api.TypeUnion, c, api.Type{Kind: api.TypeSelf}, readType("X")), api.ErrType},
	} {
		if q, e := matching.Of(p, x.t); e != x.want || e != api.OK && len(q) > 0 {
			t.Errorf("type %d: error %d, want %d", i, e, x.want)
		}
	}
	many := make([]api.Entity, 201)
	for i := range many {
		many[i] = named(api.Class, "C"+strconv.Itoa(i))
	}
	if _, e := matching.Of(many, api.Type{}); e != api.ErrSize || len(matching.Leaves(many)) > 0 {
		t.Errorf("201 entities: error %d", e)
	}
	if _, e := matching.Of(many[:200], api.Type{}); e != api.ErrForm || len(matching.Leaves(many[:200])) != 200 {
		t.Errorf("200 entities: error %d", e)
	}
	large := other(api.TypeUnion)
	for i := range 64 {
		large.Args = append(large.Args, other(api.TypeTuple, readType(many[i].Name), other(api.TypeTuple, readType(many[i+1].Name), readType(many[2*i].Name)), readType(many[3*i].Name)))
	}
	whole := other(api.TypeUnion, large)
	for i := range 63 {
		whole.Args = append(whole.Args, other(api.TypeTuple, readType(many[i].Name), other(api.TypeTuple, readType(many[i+1].Name), readType(many[i].Name)), readType(many[i].Name), readType(many[i+9].Name)))
	}
	if q, e := matching.Of(many[:200], large); e != api.OK || count(q) != 64*6 {
		t.Errorf("a large type: %d, error %d", count(q), e)
	}
	if q, e := matching.Of(many[:200], other(api.TypeUnion, whole, other(api.TypeUnion, large, c))); e != api.ErrNone || len(q) > 0 {
		t.Errorf("a name that is not there: error %d", e)
	}
	for i := range 62 {
		whole.Args = append(whole.Args, other(api.TypeTuple, readType(many[i].Name), other(api.TypeTuple, readType(many[i+2].Name), readType(many[i].Name)), readType(many[i+1].Name), readType(many[i+9].Name)))
	}
	if q, e := matching.Of(many[:200], whole); e != api.ErrLarge || len(q) > 0 {
		t.Errorf("a type that is too large: %d, error %d", count(q), e)
	}
}

// TestTypes is P12.5 for drawn programs and types.
func TestTypes(t *testing.T) {
	fine := 0
	for seed := range uint64(300) {
		m := draw.New(seed)
		p := m.Program(draw.Shape{Entities: 6})
		leaves := len(matching.Leaves(p))
		for range 5 {
			a, b := m.Type(3), m.Type(3)
			x, e := matching.Of(p, a)
			y, e2 := matching.Of(p, b)
			if e != api.OK || e2 != api.OK {
				continue
			}
			fine++
			union, _ := matching.Of(p, api.Type{Kind: api.TypeUnion, Args: []api.Type{a, b}})
			is(t, "a union", result(matching.Normal(leaves, append(slices.Clone(x), y...))), show(union))
			both, _ := matching.Of(p, api.Type{Kind: api.TypeBoth, Args: []api.Type{a, b}})
			is(t, "an intersection", result(matching.Both(leaves, x, y)), show(both))
			if subtype.Bare(p, a, b) {
				if ok, _ := matching.Within(leaves, y, x); !ok {
					t.Fatalf("%s is not within %s", show(x), show(y))
				}
			}
		}
	}
	if fine < 500 {
		t.Errorf("%d types have patterns", fine)
	}
}
