package matching_test

import (
	"cmp"
	"fmt"
	"math/rand"
	"reflect"
	"slices"
	"strconv"
	"strings"
	"testing"

	"hackamore/api"
	"hackamore/matching"
)

type (
	pattern = matching.Pattern
	part    = matching.Part
	value   = matching.Value
	kase    = matching.Case
)

// read reads a pattern: its parts with `|` between them, each leaves, or patterns in brackets with `;` between them.
func read(t *testing.T, s string) pattern {
	t.Helper()
	var p pattern
	for _, one := range split(s, '|') {
		one = strings.TrimSpace(one)
		if one == "" {
			continue
		}
		var x part
		if inside, ok := strings.CutPrefix(one, "("); ok {
			for _, k := range split(strings.TrimSuffix(inside, ")"), ';') {
				x.Kids = append(x.Kids, read(t, k))
			}
		} else {
			for _, w := range strings.Fields(strings.ReplaceAll(one, ",", " ")) {
				n, e := strconv.Atoi(w)
				if e != nil {
					t.Fatalf("%q in %q", w, s)
				}
				x.Leaves = append(x.Leaves, n)
			}
		}
		p = append(p, x)
	}
	return p
}

// split divides a text where a byte stands outside of brackets.
func split(s string, at byte) []string {
	var l []string
	depth, start := 0, 0
	for i := range len(s) {
		switch {
		case s[i] == '(':
			depth++
		case s[i] == ')':
			depth--
		case s[i] == at && depth == 0:
			l = append(l, s[start:i])
			start = i + 1
		}
	}
	return append(l, s[start:])
}

func show(p pattern) string {
	var l []string
	for _, x := range p {
		if len(x.Kids) == 0 {
			l = append(l, strings.Trim(fmt.Sprint(x.Leaves), "[]"))
			continue
		}
		var kids []string
		for _, k := range x.Kids {
			kids = append(kids, show(k))
		}
		l = append(l, "("+strings.Join(kids, "; ")+")")
	}
	return strings.Join(l, " | ")
}

func showValue(v value) string {
	if len(v.Kids) == 0 {
		return strconv.Itoa(v.Leaf)
	}
	var l []string
	for _, k := range v.Kids {
		l = append(l, showValue(k))
	}
	return "(" + strings.Join(l, "; ") + ")"
}

func readValue(t *testing.T, s string) value {
	t.Helper()
	p := read(t, s)
	if len(p[0].Kids) == 0 {
		return value{Leaf: p[0].Leaves[0]}
	}
	var v value
	for _, k := range p[0].Kids {
		v.Kids = append(v.Kids, readValue(t, show(k)))
	}
	return v
}

// cases reads cases with `/` between them, those with a guard with `?` ahead.
func cases(t *testing.T, s string) []kase {
	t.Helper()
	var l []kase
	for _, one := range strings.Split(s, "/") {
		one, guard := strings.CutPrefix(strings.TrimSpace(one), "?")
		if s != "" {
			l = append(l, kase{read(t, one), guard})
		}
	}
	return l
}

// result shows what a function returned: a pattern, or the code of its error.
func result(p pattern, e api.Errno) string {
	if e != api.OK {
		if len(p) > 0 {
			return "a pattern with an error"
		}
		return "error " + e.Error()
	}
	return show(p)
}

func is(t *testing.T, what, want, got string) {
	t.Helper()
	if got != want {
		t.Errorf("%s: %s, want %s", what, got, want)
	}
}

// TestExamples is the chapter's examples, and P12.1 for single patterns.
func TestExamples(t *testing.T) {
	for s, want := range map[string]string{
		"(0; 0 1) | (1; 0)":                     "(0; 0 1) | (1; 0)",
		"(0; 0) | (0; 1) | (1; 0)":              "(0; 0 1) | (1; 0)",
		"(0; 0) | (1; 0) | (0; 1)":              "(0; 0 1) | (1; 0)",
		"2 | 0 | 0 2":                           "0 2",
		"":                                      "",
		"(; 1)":                                 "",
		"(0; 1) | (0 1; 1) | 1":                 "1 | (0 1; 1)",
		"(0; 1; 2) | (0; 1) | (0; 0; 0; 0) | 2": "2 | (0; 1) | (0; 1; 2) | (0; 0; 0; 0)",
		"(0; 1; 2) | (0; 2; 1) | (1; 1; 2) | (1; 2; 1)": "(0 1; 1; 2) | (0 1; 2; 1)",
		"(0; 1; 2) | (0; 2; 1) | (1; 1; 2)":             "(0; 1; 2) | (0; 2; 1) | (1; 1; 2)",
		"((0; 1); 0) | ((0; 1) | 2; 0) | ((0; 2); 0)":   "(2 | (0; 1 2); 0)",
		"((0; 1) | 0; 0) | (0; 1)":                      "(0; 0 1) | ((0; 1); 0)",
		"((2; 0); 1) | ((0; 2); 2)":                     "((0; 2); 2) | ((2; 0); 1)",
		"(0; (0; 1)) | (1; (0; 1) | 0)":                 "(0; (0; 1)) | (1; 0 | (0; 1))",
	} {
		p := read(t, s)
		is(t, "Normal of "+s, want, result(matching.Normal(3, p)))
		is(t, "the argument", show(read(t, s)), show(p))
	}
	is(t, "Less", "(1; 0)", result(matching.Less(2, read(t, "(0 1; 0 1)"), read(t, "(0; 0 1) | (0 1; 1)"))))
	is(t, "Both", "(0; 1)", result(matching.Both(2, read(t, "(0; 0 1) | 1"), read(t, "0 | (0 1; 1)"))))
	ok, v, e := matching.Exhaustive(3, read(t, "0 1 2"), cases(t, "0 / ?1 2 / 2"))
	if ok || showValue(v) != "1" || e != api.OK {
		t.Errorf("Exhaustive: %v, %v, error %d", ok, v, e)
	}
	with := cases(t, "0 / ?1 2 / 2 / 1")
	ok, v, e = matching.Exhaustive(3, read(t, "0 1 2"), with)
	if !ok || !reflect.DeepEqual(v, value{}) || e != api.OK {
		t.Errorf("Exhaustive: %v, %v, error %d", ok, v, e)
	}
	if l, e := matching.Unreachable(3, read(t, "0 1 2"), with); len(l) > 0 || e != api.OK {
		t.Errorf("Unreachable: %v, error %d", l, e)
	}
	ok, v, e = matching.Exhaustive(2, read(t, "(0 1; 0 1)"), cases(t, "(0; 0 1) / (0 1; 1)"))
	if ok || showValue(v) != "(1; 0)" || e != api.OK {
		t.Errorf("Exhaustive: %v, %v, error %d", ok, v, e)
	}
	l, e := matching.Unreachable(3, read(t, "0 1 | (0; 1)"), cases(t, "0 / ?0 1 / 0 2 / ?1 / 1 | (0; 0) / (0 1; 1 2) / (0; 1) / "))
	if !slices.Equal(l, []int{2, 6, 7}) || e != api.OK {
		t.Errorf("Unreachable: %v, error %d", l, e)
	}
}

// chain returns the text of a pattern of a depth.
func chain(depth int) string {
	s := "0"
	for range depth - 1 {
		s = "(" + s + "; 0)"
	}
	return s
}

// TestErrors is P12.1 for what is no pattern and no value, and the order of errors.
func TestErrors(t *testing.T) {
	many := func(n int) pattern { return slices.Repeat(read(t, "0"), n) }
	tuples := func(n int) pattern { return slices.Repeat(read(t, "(0; 0)"), n) }
	for i, x := range []struct {
		leaves int
		p      pattern
		want   api.Errno
	}{
		{-1, many(201), api.ErrArg}, {201, many(201), api.ErrArg}, {0, nil, api.OK}, {200, read(t, "0 199"), api.OK}, {200, read(t, "200"), matching.ErrPattern}, {0, read(t, "0"), matching.ErrPattern},
		{1, many(200), api.OK}, {1, many(201), api.ErrSize}, {1, tuples(66), api.OK}, {1, tuples(67), api.ErrSize}, {1, append(tuples(66), many(2)...), api.OK}, {1, append(tuples(66), many(3)...), api.ErrSize},
		{1, read(t, chain(4)), api.OK}, {1, read(t, chain(5)), api.ErrSize}, {1, pattern{{Kids: []pattern{read(t, chain(4))}}}, api.ErrSize}, {1, pattern{{Leaves: []int{7}, Kids: []pattern{read(t, chain(4))}}}, api.ErrSize},
		{3, pattern{{}}, matching.ErrPattern}, {3, pattern{{Leaves: []int{1, 0}}}, matching.ErrPattern}, {3, pattern{{Leaves: []int{1, 1}}}, matching.ErrPattern}, {3, pattern{{Leaves: []int{-1}}}, matching.ErrPattern}, {3, pattern{{Leaves: []int{3}}}, matching.ErrPattern},
		{3, pattern{{Kids: []pattern{nil}}}, matching.ErrPattern}, {3, pattern{{Kids: make([]pattern, 4)}}, api.OK}, {3, pattern{{Kids: make([]pattern, 5)}}, matching.ErrPattern}, {3, pattern{{Leaves: []int{0}, Kids: make([]pattern, 2)}}, matching.ErrPattern},
		{3, read(t, "0 | (1; 2 | (1; 3))"), matching.ErrPattern},
	} {
		good, v := read(t, ""), value{Leaf: -1}
		if e := matching.Check(x.leaves, x.p); e != x.want {
			t.Errorf("pattern %d: error %d, want %d", i, e, x.want)
		}
		_, e1 := matching.Normal(x.leaves, x.p)
		_, e2 := matching.Both(x.leaves, good, x.p)
		_, e3 := matching.Both(x.leaves, x.p, many(1))
		_, e4 := matching.Less(x.leaves, good, x.p)
		_, e5 := matching.Less(x.leaves, x.p, good)
		_, e6 := matching.Within(x.leaves, good, x.p)
		_, e7 := matching.Within(x.leaves, x.p, good)
		_, e8 := matching.Takes(x.leaves, x.p, v)
		_, e9 := matching.Taken(x.leaves, []kase{{}, {Pattern: x.p}}, v, nil)
		_, _, e10 := matching.Exhaustive(x.leaves, x.p, nil)
		_, _, e11 := matching.Exhaustive(x.leaves, good, []kase{{}, {Pattern: x.p, Guard: true}})
		_, e12 := matching.Unreachable(x.leaves, x.p, make([]kase, 64))
		_, e13 := matching.Decide(x.leaves, good, []kase{{}, {Pattern: x.p}})
		_, e14 := matching.Decide(x.leaves, x.p, make([]kase, 64))
		got := []api.Errno{e1, e2, e4, e5, e6, e7, e10, e11, e12, e13, e14}
		if slices.Max(got) != x.want || slices.Min(got) != x.want {
			t.Errorf("pattern %d: errors %v, want %d", i, got, x.want)
		}
		if x.want != api.OK && (e3 != x.want || e8 != x.want || e9 != x.want) || x.want == api.OK && (e8 != matching.ErrPattern || e9 != matching.ErrPattern) {
			t.Errorf("pattern %d: errors %d, %d, %d", i, e3, e8, e9)
		}
	}
	wrong, large := pattern{{}}, many(201)
	if _, e := matching.Less(1, wrong, large); e != matching.ErrPattern {
		t.Errorf("Less: error %d", e)
	}
	if _, e := matching.Within(1, large, wrong); e != api.ErrSize {
		t.Errorf("Within: error %d", e)
	}
	if _, _, e := matching.Exhaustive(1, wrong, make([]kase, 65)); e != matching.ErrPattern {
		t.Errorf("Exhaustive: error %d", e)
	}
	if _, _, e := matching.Exhaustive(1, nil, append(make([]kase, 64), kase{Pattern: wrong})); e != api.ErrSize {
		t.Errorf("Exhaustive: error %d", e)
	}
	if _, e := matching.Unreachable(1, nil, []kase{{Pattern: wrong}, {Pattern: large}}); e != matching.ErrPattern {
		t.Errorf("Unreachable: error %d", e)
	}
}

// TestValues is P12.1 for values, Takes and Taken.
func TestValues(t *testing.T) {
	p := read(t, "0 2 | (0 1; 1 | (2; 2))")
	for s, want := range map[string]bool{"0": true, "1": false, "2": true, "(0; 1)": true, "(1; (2; 2))": true, "(1; 2)": false, "(2; 1)": false, "(0; 1; 1)": false, "((0; 0); 1)": false} {
		if got, e := matching.Takes(3, p, readValue(t, s)); got != want || e != api.OK {
			t.Errorf("Takes %s: %v, error %d", s, got, e)
		}
	}
	for i, v := range []value{{Leaf: 3}, {Leaf: -1}, {Kids: make([]value, 1)}, {Kids: make([]value, 5)}, {Leaf: 1, Kids: make([]value, 2)}, {Kids: []value{{}, {Leaf: 3}}}, readValue(t, chain(5))} {
		if got, e := matching.Takes(3, p, v); got || e != matching.ErrPattern {
			t.Errorf("value %d: %v, error %d", i, got, e)
		}
		if n, e := matching.Taken(3, nil, v, []bool{true}); n != 0 || e != matching.ErrPattern {
			t.Errorf("value %d: %d, error %d", i, n, e)
		}
		if n, tests, e := matching.Run(3, matching.Tree{Kind: 7}, v, nil); n+tests != 0 || e != matching.ErrPattern {
			t.Errorf("value %d: %d, error %d", i, n, e)
		}
	}
	for _, v := range []value{readValue(t, chain(4)), {Kids: make([]value, 4)}} {
		if _, e := matching.Takes(3, p, v); e != api.OK {
			t.Errorf("Takes %v: error %d", v, e)
		}
	}
	l := cases(t, "?0 1 / 1 | (0; 1) / ?0")
	for s, want := range map[string]int{"0 ttt": 0, "0 fff": -1, "0 fft": 2, "1 fff": 1, "1 tff": 0, "2 ttt": -1, "(0; 1) fff": 1} {
		i := strings.LastIndex(s, " ")
		var holds []bool
		for _, c := range s[i+1:] {
			holds = append(holds, c == 't')
		}
		if n, e := matching.Taken(3, l, readValue(t, s[:i]), holds); n != want || e != api.OK {
			t.Errorf("Taken of %s: %d, error %d", s, n, e)
		}
	}
	for i, x := range []struct {
		leaves int
		l      []kase
		v      value
		holds  []bool
		want   api.Errno
	}{
		{-1, make([]kase, 65), value{Leaf: 9}, nil, api.ErrArg}, {3, append(make([]kase, 64), kase{Pattern: pattern{{}}}), value{Leaf: 9}, nil, api.ErrSize}, {3, []kase{{Pattern: pattern{{}}}}, value{Leaf: 9}, nil, matching.ErrPattern},
		{3, make([]kase, 2), value{Leaf: 9}, make([]bool, 3), matching.ErrPattern}, {3, make([]kase, 2), value{}, make([]bool, 3), api.ErrSize}, {3, make([]kase, 64), value{}, make([]bool, 64), api.OK}, {3, nil, value{}, nil, api.OK},
	} {
		if n, e := matching.Taken(x.leaves, x.l, x.v, x.holds); e != x.want || e != api.OK && n != 0 || e == api.OK && n != -1 {
			t.Errorf("match %d: %d, error %d", i, n, e)
		}
	}
}

// universe returns all values over so many leaves, with tuples of two and three, up to a depth.
func universe(leaves, depth int) []value {
	var l []value
	for i := range leaves {
		l = append(l, value{Leaf: i})
	}
	if depth == 1 {
		return l
	}
	below := universe(leaves, depth-1)
	for _, a := range below {
		for _, b := range below {
			l = append(l, value{Kids: []value{a, b}})
		}
	}
	if depth > 2 {
		return l
	}
	for _, a := range below {
		for _, b := range below {
			for _, c := range below {
				l = append(l, value{Kids: []value{a, b, c}})
			}
		}
	}
	return l
}

// normal returns the normal form of the pattern that takes some values, by its definition.
func normal(l []value) pattern {
	var p pattern
	var leaves []int
	tuples := map[int][]value{}
	for _, v := range l {
		if len(v.Kids) == 0 {
			leaves = append(leaves, v.Leaf)
		} else {
			tuples[len(v.Kids)] = append(tuples[len(v.Kids)], v)
		}
	}
	slices.Sort(leaves)
	if len(leaves) > 0 {
		p = pattern{{Leaves: slices.Compact(leaves)}}
	}
	for n := 2; n <= 4; n++ {
		p = append(p, normalTuples(tuples[n])...)
	}
	return p
}

func normalTuples(l []value) []part {
	rests, firsts := map[string][]value{}, map[string]value{}
	for _, v := range l {
		rest := value{Kids: v.Kids[1:]}
		if len(rest.Kids) == 1 {
			rest = rest.Kids[0]
		}
		key := showValue(v.Kids[0])
		firsts[key] = v.Kids[0]
		rests[key] = append(rests[key], rest)
	}
	groups, behind := map[string][]value{}, map[string][]value{}
	for key, l := range rests {
		var texts []string
		for _, v := range l {
			texts = append(texts, showValue(v))
		}
		slices.Sort(texts)
		same := strings.Join(slices.Compact(texts), " ")
		groups[same] = append(groups[same], firsts[key])
		behind[same] = l
	}
	var out []part
	for same, first := range groups {
		if len(l[0].Kids) == 2 {
			out = append(out, part{Kids: []pattern{normal(first), normal(behind[same])}})
			continue
		}
		for _, rest := range normalTuples(behind[same]) {
			out = append(out, part{Kids: append([]pattern{normal(first)}, rest.Kids...)})
		}
	}
	slices.SortFunc(out, comparePart)
	return out
}

func comparePart(a, b part) int {
	if len(a.Kids) == 0 && len(b.Kids) == 0 {
		return slices.Compare(a.Leaves, b.Leaves)
	}
	return cmp.Or(cmp.Compare(len(a.Kids), len(b.Kids)), slices.CompareFunc(a.Kids, b.Kids, func(p, q pattern) int { return slices.CompareFunc(p, q, comparePart) }))
}

// drawn returns a pattern over so many leaves up to a depth, whose tuples of three have leaves alone.
func drawn(r *rand.Rand, leaves, depth int) pattern {
	var p pattern
	for range r.Intn(3) + r.Intn(2) {
		if depth == 1 || r.Intn(3) == 0 {
			var x part
			for i := range leaves {
				if r.Intn(2) == 0 {
					x.Leaves = append(x.Leaves, i)
				}
			}
			if len(x.Leaves) > 0 {
				p = append(p, x)
			}
			continue
		}
		x := part{Kids: []pattern{drawn(r, leaves, depth-1), drawn(r, leaves, depth-1)}}
		if depth == 2 && r.Intn(3) == 0 {
			x.Kids = append(x.Kids, drawn(r, leaves, 1))
		}
		p = append(p, x)
	}
	return p
}

// taken returns the values that are so.
func taken(l []value, is func(v value) bool) []value {
	var out []value
	for _, v := range l {
		if is(v) {
			out = append(out, v)
		}
	}
	return out
}

func takes(t *testing.T, leaves int, p pattern, v value) bool {
	t.Helper()
	ok, e := matching.Takes(leaves, p, v)
	if e != api.OK {
		t.Fatalf("Takes of %s: error %d", show(p), e)
	}
	return ok
}

// TestSets is P12.2, and P12.1 for drawn patterns.
func TestSets(t *testing.T) {
	r := rand.New(rand.NewSource(3))
	all := map[int][]value{1: universe(3, 1), 2: universe(3, 2), 3: universe(2, 3)}
	for i := range 3000 {
		depth := 1 + r.Intn(3)
		leaves := 3 - depth/3
		p, q := drawn(r, leaves, depth), drawn(r, leaves, depth)
		if i%5 == 0 {
			q = append(slices.Clone(p), q...)
		}
		values := all[depth]
		ofP := func(v value) bool { return takes(t, leaves, p, v) }
		ofQ := func(v value) bool { return takes(t, leaves, q, v) }
		is(t, "Normal of "+show(p), show(normal(taken(values, ofP))), result(matching.Normal(leaves, p)))
		is(t, "Both of "+show(p)+" and "+show(q), show(normal(taken(values, func(v value) bool { return ofP(v) && ofQ(v) }))), result(matching.Both(leaves, p, q)))
		less := normal(taken(values, func(v value) bool { return ofP(v) && !ofQ(v) }))
		is(t, "Less of "+show(p)+" and "+show(q), show(less), result(matching.Less(leaves, p, q)))
		if within, e := matching.Within(leaves, q, p); within != (len(less) == 0) || e != api.OK {
			t.Fatalf("Within of %s and %s: %v, error %d", show(q), show(p), within, e)
		}
		n, _ := matching.Normal(leaves, p)
		is(t, "Normal of Normal", show(n), result(matching.Normal(leaves, n)))
		is(t, "Less of itself", "", result(matching.Less(leaves, p, p)))
	}
}

func one(n int) pattern { return pattern{{Leaves: []int{n}}} }

// bits returns the leaves below a number that have a bit.
func bits(below, bit int) pattern {
	var l []int
	for n := range below {
		if n>>bit&1 == 1 {
			l = append(l, n)
		}
	}
	return pattern{{Leaves: l}}
}

func tuple(l ...pattern) part { return part{Kids: l} }

// TestLarge is P12.1 for patterns that would be too large, on both sides of the limit: the tuples of three by five bits make 844
// parts, the pairs three each.
func TestLarge(t *testing.T) {
	var p pattern
	for k := range 5 {
		p = append(p, tuple(bits(32, k), bits(32, k), one(k)))
	}
	for i := range 52 {
		p = append(p, tuple(one(i), one(i)))
	}
	n, e := matching.Normal(200, p)
	if e != api.OK || count(n) != 1000 {
		t.Errorf("1000 parts: %d, error %d", count(n), e)
	}
	more := append(slices.Clone(p), part{Leaves: []int{0, 5}})
	is(t, "1001 parts", "error 16", result(matching.Normal(200, more)))
	is(t, "1001 parts of both", "error 16", result(matching.Both(200, more, more)))
	is(t, "1001 parts of less", "error 16", result(matching.Less(200, more, nil)))
	is(t, "1001 parts but a leaf", "error 16", result(matching.Less(200, more, one(0))))
	if m, e := matching.Less(200, more, read(t, "0 5")); e != api.OK || !reflect.DeepEqual(m, n) {
		t.Errorf("1000 parts of less: %d, error %d", count(m), e)
	}
	p = nil
	for k := range 8 {
		p = append(p, tuple(bits(200, k), bits(200, k), bits(200, k), bits(200, k)))
	}
	for k := range 32 {
		p = append(p, tuple(bits(200, k%8), bits(200, k*5%7), bits(150+k, k*3%8), one(k)))
	}
	all := pattern{{}}
	for i := range 200 {
		all[0].Leaves = append(all[0].Leaves, i)
	}
	whole := pattern{tuple(all, all, all, all)}
	is(t, "many parts", "error 16", result(matching.Normal(200, p)))
	is(t, "many parts", "error 16", result(matching.Less(200, whole, p)))
	if ok, e := matching.Within(200, p, p); !ok || e != api.OK {
		t.Errorf("Within: %v, error %d", ok, e)
	}
	if ok, e := matching.Within(200, p, whole); ok || e != api.OK {
		t.Errorf("Within: %v, error %d", ok, e)
	}
	if ok, v, e := matching.Exhaustive(200, whole, []kase{{Pattern: p[:8]}}); ok || showValue(v) != "(0; 0; 0; 0)" || e != api.OK {
		t.Errorf("Exhaustive: %v, %s, error %d", ok, showValue(v), e)
	}
}

func count(p pattern) int {
	n := len(p)
	for _, x := range p {
		for _, k := range x.Kids {
			n += count(k)
		}
	}
	return n
}
