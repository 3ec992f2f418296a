package values_test

import (
	"reflect"
	"slices"
	"testing"

	"hackamore/api"
	"hackamore/draw"
	"hackamore/values"
)

func tuple(l ...api.Value) api.Value { return api.Value{Kind: api.ValTuple, Kids: l} }

func number(n int) api.Value { return api.Value{Kind: api.ValNumber, Lo: uint64(n)} }

// drawn returns a value with tuples.
func drawn(m *draw.Maker, depth int) api.Value {
	if depth == 0 || m.Below(3) == 0 {
		return number(m.Below(3))
	}
	var l []api.Value
	for range 1 + m.Below(3) {
		l = append(l, drawn(m, depth-1))
	}
	if m.Below(2) == 0 {
		l = append(l, l[0])
	}
	return tuple(l...)
}

// measured returns the size of a value, part by part.
func measured(v api.Value) (parts, levels int) {
	parts = 1
	for _, k := range v.Kids {
		p, l := measured(k)
		parts, levels = parts+p, max(levels, l)
	}
	if len(v.Kids) > 0 {
		levels++
	}
	return parts, levels
}

// TestDrawn compares sizes, equality and copies of drawn values with what is counted part by part.
func TestDrawn(t *testing.T) {
	m := draw.New(1)
	for range 5000 {
		a, b := drawn(m, 4), drawn(m, 2)
		parts, levels := values.Size(a)
		if p, l := measured(a); p != parts || l != levels {
			t.Fatalf("Size of %v is %d, %d, not %d, %d", a, parts, levels, p, l)
		}
		if got, want := values.Same(a, b), reflect.DeepEqual(a, b); got != want {
			t.Fatalf("Same of %v and %v is %v", a, b, got)
		}
		l := []api.Value{a, b}
		c := values.CloneAll(l)
		if !values.Same(a, c[0]) || !values.Same(b, c[1]) || &c[0] == &l[0] {
			t.Fatalf("a copy of %v and %v is %v", a, b, c)
		}
		if len(a.Kids) > 0 {
			c[0].Kids[0].Kind = 99
			if a.Kids[0].Kind == 99 {
				t.Fatalf("a copy of %v shares its memory", a)
			}
		}
	}
}

// TestFields tells values apart by each field.
func TestFields(t *testing.T) {
	all := []api.Value{{}, {Kind: 1}, {Lo: 1}, {Hi: 1}, {Name: "a"}, {Kids: []api.Value{{}}}, {Kids: []api.Value{{}, {}}}, {Kids: []api.Value{{}, {Lo: 1}}}}
	for i, a := range all {
		for j, b := range all {
			if values.Same(a, b) != (i == j) || values.Same(tuple(a, b), tuple(b, a)) != (i == j) {
				t.Errorf("%v and %v", a, b)
			}
		}
	}
	if !values.Same(api.Value{}, api.Value{Kids: []api.Value{}}) {
		t.Error("no kids and none differ")
	}
	if c := values.Clone(api.Value{Kids: []api.Value{}}); c.Kids != nil {
		t.Error("a copy keeps an empty list")
	}
}

// TestParts has tuples that share the memory of lists of several lengths.
func TestParts(t *testing.T) {
	l := []api.Value{number(1), number(2), number(3)}
	v := tuple(tuple(l[:2]...), tuple(l[:3]...))
	v.Kids[0].Kids, v.Kids[1].Kids = l[:2], l[:3]
	if parts, levels := values.Size(v); parts != 8 || levels != 2 {
		t.Errorf("Size is %d, %d", parts, levels)
	}
	k := slices.Clone(l)
	k[2] = number(9)
	w := tuple(api.Value{Kind: api.ValTuple, Kids: k[:2]}, api.Value{Kind: api.ValTuple, Kids: k})
	if values.Same(v, w) {
		t.Error("tuples with different elements are the same")
	}
}

// TestGreat has values with more parts than anybody can count, which come to an end all the same.
func TestGreat(t *testing.T) {
	great := func(n int) api.Value {
		v := number(1)
		for range n {
			v = tuple(v, v)
		}
		return v
	}
	if parts, levels := values.Size(great(200)); parts != values.Most+1 || levels != 200 {
		t.Errorf("Size is %d, %d", parts, levels)
	}
	if parts, levels := values.Size(great(10)); parts != 2047 || levels != 10 {
		t.Errorf("Size is %d, %d", parts, levels)
	}
	if !values.Same(great(200), great(200)) || values.Same(great(200), great(201)) {
		t.Error("Same of great values")
	}
	a := great(200)
	if c := values.Clone(a); &c.Kids[0] != &a.Kids[0] {
		t.Error("a value that is too great was copied")
	}
}
