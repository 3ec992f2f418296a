package derive_test

import (
	"reflect"
	"slices"
	"testing"

	"hackamore/api"
	"hackamore/cap"
	"hackamore/check"
	"hackamore/derive"
	"hackamore/draw"
	"hackamore/exprs"
	"hackamore/subtype"
	"hackamore/types"
)

// TestDrawn is P14.2, P14.4 and P14.5 for drawn programs.
func TestDrawn(t *testing.T) {
	for seed := range uint64(80) {
		p := draw.New(seed).Core()
		c, _, e := check.Check(p)
		if e != api.OK {
			t.Fatalf("seed %d: Check: error %d", seed, e)
		}
		if f, e := derive.Verify(p, c); e != api.OK || !reflect.DeepEqual(f, check.Fault{}) {
			t.Fatalf("seed %d: error %d at %v", seed, e, f)
		}
		s, e := derive.Text(c)
		d, e2 := derive.Parse(s)
		if e != api.OK || e2 != api.OK || !reflect.DeepEqual(c, d) {
			t.Fatalf("seed %d: errors %d, %d", seed, e, e2)
		}
		for i, b := range c.Bodies {
			if d, e := derive.Weaker(c, i, 0, b.Types[0]); e != api.OK || !reflect.DeepEqual(c, d) {
				t.Fatalf("seed %d: Weaker: error %d", seed, e)
			}
		}
	}
}

// follows returns what Body must return for claimed types of a body, all well-formed: the first of its nodes, their Kids first,
// whose claim does not follow, in contexts that are taken from layer 13's own walk.
func follows(p []api.Entity, b check.Body, l []place) (path []int, e api.Errno) {
	var find func(k int) ([]int, api.Errno)
	find = func(k int) ([]int, api.Errno) {
		zero := types.Equal(b.Types[k], api.Type{})
		if l[k].x.Op == 0 {
			if !zero {
				return l[k].path, derive.ErrClaim
			}
			return nil, api.OK
		}
		var kids []api.Type
		for n := range l {
			if len(l[n].path) == len(l[k].path)+1 && slices.Equal(l[n].path[:len(l[k].path)], l[k].path) {
				if at, e := find(n); e != api.OK {
					return at, e
				}
				kids = append(kids, b.Types[n])
			}
		}
		r, e := check.Rule(p, l[k].c, l[k].x, kids)
		switch {
		case e != api.OK:
			return l[k].path, e
		case types.Equal(r, api.Type{}) || !zero && (types.Equal(r, b.Types[k]) || subtype.Is(p, r, b.Types[k])):
			return nil, api.OK
		}
		return l[k].path, derive.ErrClaim
	}
	return find(0)
}

// place is a node of a body with its context.
type place struct {
	path []int
	x    api.Expr
	c    check.Context
}

// places returns the nodes of a body without recover blocks and cases, with contexts in which all its variables are declared: those
// of drawn programs have names of their own.
func places(t *testing.T, p []api.Entity, b check.Body) ([]place, bool) {
	t.Helper()
	c, e := check.Begin(p, b.Entity, b.Method)
	if e != api.OK {
		t.Fatalf("Begin: error %d", e)
	}
	var l []place
	gone := map[string]bool{}
	for at, x := range exprs.Walk(p[b.Entity].Methods[b.Method].Body) {
		l = append(l, place{slices.Clone(at), x, c})
		gone[x.Text] = gone[x.Text] || x.Op == api.OpConsume
		if x.Op == api.OpRecover || x.Op == api.OpCase {
			return nil, false
		}
	}
	for _, s := range l {
		if s.x.Op == api.OpVar || s.x.Op == api.OpLet {
			c.Locals = append(c.Locals, check.Local{Name: s.x.Text, Always: len(s.x.Kids) > 0 && !gone[s.x.Text], Type: s.x.Types[0]})
		}
	}
	for i := range l {
		l[i].c = c
	}
	return l, true
}

// TestChanged is P14.1 and P14.5 for certificates of drawn programs in which a type is another one: Verify takes them just if each
// claim follows.
func TestChanged(t *testing.T) {
	seen := map[api.Errno]int{}
	for seed := range uint64(60) {
		m := draw.New(seed)
		p := m.Core()
		c, _, _ := check.Check(p)
		m.Names = []string{"U32", "None", "main.C0", "main.I", "Any"}
		for i, b := range c.Bodies {
			l, ok := places(t, p, b)
			if !ok {
				continue
			}
			for n := range 6 {
				k := m.Below(len(b.Types))
				typ := draw.One(m, m.Type(1), types.Named("Any", api.Tag, nil), b.Types[m.Below(len(b.Types))], weakened(m, b.Types[k]))
				d, e := derive.Weaker(c, i, k, typ)
				if e != api.OK {
					t.Fatalf("Weaker: error %d", e)
				}
				at, want := follows(p, d.Bodies[i], l)
				if want == api.OK {
					want = resultOf(p, d.Bodies[i])
				}
				f, e := derive.Body(p, d.Bodies[i])
				seen[e]++
				isFault(t, "a changed certificate", f, e, fault(want, b.Entity, b.Method, at...), want)
				if n == 0 {
					f2, e2 := derive.Verify(p, d)
					isFault(t, "Verify of it", f2, e2, f, e)
				}
			}
		}
	}
	for _, e := range []api.Errno{api.OK, derive.ErrClaim, check.ErrResult, check.ErrArgs, check.ErrView} {
		if seen[e] < 10 {
			t.Errorf("error %d: %d times", e, seen[e])
		}
	}
}

// weakened returns a type with other capabilities.
func weakened(m *draw.Maker, t api.Type) api.Type {
	if w, e := types.With(t, draw.One(m, api.Box, api.Tag, api.Val)); e == api.OK {
		return w
	}
	return t
}

// resultOf returns the error of the claimed type of a body whose result it does not fit.
func resultOf(p []api.Entity, b check.Body) api.Errno {
	m := p[b.Entity].Methods[b.Method]
	if m.Kind != api.Fun || m.Result.Kind == 0 || m.Result.Name == "None" || b.Types[0].Kind == 0 {
		return api.OK
	}
	want, e := types.Self(m.Result, m.Cap, api.Plain)
	if e != api.OK || !subtype.Is(p, b.Types[0], want) {
		return check.ErrResult
	}
	return api.OK
}

// TestRight is P14.3 for drawn programs, with claims that are weaker where that is taken.
func TestRight(t *testing.T) {
	written, sent, weaker := 0, 0, 0
	for seed := range uint64(30) {
		m := draw.New(seed)
		p := m.Core()
		c, _, _ := check.Check(p)
		for range 40 {
			i := m.Below(len(c.Bodies))
			k := m.Below(len(c.Bodies[i].Types))
			d, _ := derive.Weaker(c, i, k, weakened(m, c.Bodies[i].Types[k]))
			if _, e := derive.Body(p, d.Bodies[i]); e == api.OK && !reflect.DeepEqual(c.Bodies[i], d.Bodies[i]) {
				weaker++
				c = d
			}
		}
		if f, e := derive.Verify(p, c); e != api.OK {
			t.Fatalf("seed %d: error %d at %v", seed, e, f)
		}
		for _, b := range c.Bodies {
			k := 0
			for _, x := range exprs.Walk(p[b.Entity].Methods[b.Method].Body) {
				switch of := b.Types[min(k+1, len(b.Types)-1)]; x.Op {
				case api.OpSet:
					written++
					if !cap.Writes(of.Cap) || of.Mark == api.Aliased {
						t.Errorf("seed %d: written through %v", seed, of)
					}
				case api.OpCall:
					n, e := subtype.Lookup(p, of, x.Text)
					if e != api.OK {
						t.Fatalf("seed %d: no method %s", seed, x.Text)
					}
					for _, y := range n.Params {
						if n.Kind == api.Be && !types.Sendable(y.Type) {
							t.Errorf("seed %d: %v is sent", seed, y.Type)
						}
						sent++
					}
				}
				k++
			}
		}
	}
	if written < 100 || sent < 100 || weaker < 100 {
		t.Errorf("%d, %d, %d", written, sent, weaker)
	}
}

// TestGarbage is P14.1 for all arguments: nothing panics, and asked again the answer is the same.
func TestGarbage(t *testing.T) {
	for seed := range uint64(60) {
		m := draw.New(seed)
		p := m.Program(draw.Shape{Entities: 6, Generic: seed%2 == 0, Methods: seed%3 == 0, Arguments: true})
		m.Params, m.Marks, m.Arrows, m.Open = []string{"A"}, true, true, true
		var c check.Certificate
		for i, x := range p {
			for j := range x.Methods {
				b := check.Body{Entity: i, Method: j}
				for range exprs.Walk(x.Methods[j].Body) {
					b.Types = append(b.Types, draw.One(m, api.Type{}, m.Type(2), m.Spoil(m.Type(2))))
				}
				f, e := derive.Body(p, b)
				g, e2 := derive.Body(p, b)
				if e != e2 || !reflect.DeepEqual(f, g) || e == api.OK && !reflect.DeepEqual(f, check.Fault{}) {
					t.Fatalf("seed %d: errors %d, %d", seed, e, e2)
				}
				c.Bodies = append(c.Bodies, b)
			}
		}
		derive.Verify(p, c)
		if s, e := derive.Text(c); e == api.OK {
			if d, e := derive.Parse(s); e != api.OK || !reflect.DeepEqual(c, d) {
				t.Fatalf("seed %d: error %d", seed, e)
			}
		}
	}
}
