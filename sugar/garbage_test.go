package sugar_test

import (
	"math/rand"
	"testing"

	"hackamore/api"
	"hackamore/format"
	"hackamore/names"
	"hackamore/parser"
	"hackamore/sample"
	"hackamore/sugar"
	"hackamore/syntax"
)

// spoil changes one node of a tree.
func spoil(r *rand.Rand, n *api.Node) {
	for len(n.Kids) > 0 && r.Intn(6) > 0 {
		n = &n.Kids[r.Intn(len(n.Kids))]
	}
	switch r.Intn(5) {
	case 0:
		n.Kind = r.Intn(syntax.Last+3) - 1
	case 1:
		n.Text = []string{"", "x", "X", "_1", "let", "-", "?", "type", "\xff", "and", "1", "a.b"}[r.Intn(12)]
	case 2:
		n.Kids = nil
	case 3:
		n.Kids = append([]api.Node{{Kind: r.Intn(syntax.Last + 1), Text: "x"}}, n.Kids...)
	case 4:
		if len(n.Kids) > 0 {
			n.Kids[0], n.Kids[len(n.Kids)-1] = n.Kids[len(n.Kids)-1], n.Kids[0]
		}
	}
}

// TestGarbage is P5.1 for trees of all sorts: what is not well-formed is refused, all else is rewritten, written and resolved
// without a panic.
func TestGarbage(t *testing.T) {
	r := rand.New(rand.NewSource(1))
	wrong, right := 0, 0
	for seed := range uint64(3000) {
		n := sample.New(seed).Module(4 + int(seed%20))
		for range 1 + r.Intn(2) {
			spoil(r, &n)
		}
		e := syntax.Check(n)
		p, _, e2 := sugar.Module(n, nil)
		if e != api.OK {
			wrong++
			if _, e3 := format.Text(n); e2 != e || e3 != e || p.Kind != 0 {
				t.Fatalf("seed %d: errors %d, %d, %d", seed, e, e2, e3)
			}
			continue
		}
		right++
		if s, e := format.Text(n); e == api.OK && n.Kind == syntax.Module {
			if back, at, e := parser.Parse(s); e != api.OK || !syntax.Equal(back, n) {
				t.Fatalf("seed %d: error %d at %d of\n%s", seed, e, at, s)
			}
		}
		if e2 == api.OK && !sugar.IsPlain(p) {
			t.Fatalf("seed %d: not plain", seed)
		}
		if _, place, e := names.Resolve([]names.Source{{Package: "p", Tree: p}}, nil); (e2 != api.OK) != (e == api.ErrArg) {
			t.Fatalf("seed %d: error %d at %v", seed, e, place)
		}
	}
	if wrong < 500 || right < 500 {
		t.Errorf("%d wrong trees, %d right ones", wrong, right)
	}
}
