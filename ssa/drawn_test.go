package ssa_test

import (
	"slices"
	"testing"

	"hackamore/api"
	"hackamore/draw"
	"hackamore/edit"
	"hackamore/play"
	"hackamore/ssa"
)

// drawn hands on drawn functions, with their seeds.
func drawn(n uint64, r draw.Room) func(yield func(uint64, ssa.Func) bool) {
	return func(yield func(uint64, ssa.Func) bool) {
		for seed := range n {
			if !yield(seed, draw.New(seed).Func("f", r)) {
				return
			}
		}
	}
}

var room = draw.Room{Blocks: 9, Ins: 5, Partial: true}

var variables = draw.Room{Blocks: 8, Ins: 7, Partial: true, Variables: true}

// reach returns which blocks are reached from one, without one that is passed over.
func reach(f ssa.Func, from, without int) []bool {
	met := make([]bool, len(f.Blocks))
	var walk func(b int)
	walk = func(b int) {
		if b == without || met[b] {
			return
		}
		met[b] = true
		for _, to := range f.Blocks[b].End.To {
			walk(to)
		}
	}
	walk(from)
	return met
}

// TestDominance is P19.2: dominators, frontiers and loops are what ways tell.
func TestDominance(t *testing.T) {
	loops := 0
	for seed, f := range drawn(300, room) {
		n := len(f.Blocks)
		dominates := func(a, b int) bool { return a == b || !reach(f, 0, a)[b] }
		preds, _ := ssa.Preds(f)
		above, _ := ssa.Dominators(f)
		frontier, _ := ssa.Frontier(f)
		heads, bodies, _ := ssa.Loops(f)
		for a := range n {
			var edge []int
			for b := range n {
				is, e := ssa.Dominates(f, a, b)
				if e != api.OK || is != dominates(a, b) {
					t.Fatalf("seed %d: %d dominates %d: %v, error %d", seed, a, b, is, e)
				}
				from := slices.ContainsFunc(preds[b], func(p int) bool { return dominates(a, p) })
				if from && (!is || a == b) {
					edge = append(edge, b)
				}
			}
			if !slices.Equal(edge, frontier[a]) {
				t.Fatalf("seed %d: the frontier of %d is %v, want %v", seed, a, frontier[a], edge)
			}
			if d := above[a]; a == 0 && d != -1 || a > 0 && (d == a || !dominates(d, a)) {
				t.Fatalf("seed %d: %d stands above %d", seed, d, a)
			}
			for c := range n {
				if a > 0 && c != a && dominates(c, a) && !dominates(c, above[a]) {
					t.Fatalf("seed %d: %d is not the immediate dominator of %d", seed, above[a], a)
				}
			}
			if want := loop(f, preds, a, dominates); len(want) > 0 {
				loops++
				i := slices.Index(heads, a)
				if i < 0 || !slices.Equal(bodies[i], want) {
					t.Fatalf("seed %d: the loops are %v %v, want %v of %d", seed, heads, bodies, want, a)
				}
			} else if slices.Contains(heads, a) {
				t.Fatalf("seed %d: %d is no head", seed, a)
			}
		}
		if !slices.IsSorted(heads) {
			t.Fatalf("seed %d: the heads are %v", seed, heads)
		}
	}
	if loops < 100 {
		t.Errorf("%d loops", loops)
	}
}

// loop returns the blocks of a loop.
func loop(f ssa.Func, preds [][]int, h int, dominates func(a, b int) bool) []int {
	var back []int
	for _, p := range preds[h] {
		if dominates(h, p) {
			back = append(back, p)
		}
	}
	if len(back) == 0 {
		return nil
	}
	var l []int
	for b := range f.Blocks {
		met := reach(f, b, h)
		if b == h || slices.ContainsFunc(back, func(p int) bool { return met[p] }) {
			l = append(l, b)
		}
	}
	return l
}

// TestOrder is P19.3.
func TestOrder(t *testing.T) {
	for seed, f := range drawn(300, room) {
		order, e := ssa.Order(f)
		above, _ := ssa.Dominators(f)
		place := make([]int, len(f.Blocks))
		for i, b := range order {
			place[b] = i
		}
		if sorted := slices.Sorted(slices.Values(order)); e != api.OK || len(sorted) != len(f.Blocks) || len(slices.Compact(sorted)) != len(sorted) || order[0] != 0 {
			t.Fatalf("seed %d: the order is %v", seed, order)
		}
		var post []int
		met := map[int]bool{}
		var walk func(b int)
		walk = func(b int) {
			met[b] = true
			for _, to := range f.Blocks[b].End.To {
				if !met[to] {
					walk(to)
				}
			}
			post = append([]int{b}, post...)
		}
		if walk(0); !slices.Equal(post, order) {
			t.Fatalf("seed %d: the order is %v, want %v", seed, order, post)
		}
		heads, _, _ := ssa.Loops(f)
		only := true // no other circles: without the edges to heads that dominate their beginning there is none
		for b, x := range f.Blocks {
			for _, to := range x.End.To {
				is, _ := ssa.Dominates(f, to, b)
				if place[to] <= place[b] && !is {
					only = false
				}
				if place[to] <= place[b] && is && !slices.Contains(heads, to) {
					t.Fatalf("seed %d: %d is no head", seed, to)
				}
			}
			if above[b] >= 0 && place[above[b]] >= place[b] {
				t.Fatalf("seed %d: %d stands ahead of its dominator", seed, b)
			}
		}
		if !only && isReducible(f) {
			t.Fatalf("seed %d: an edge back ends at no head", seed)
		}
	}
}

// isReducible reports whether no circle is left without the edges to blocks that dominate their beginning.
func isReducible(f ssa.Func) bool {
	g := f
	g.Blocks = slices.Clone(f.Blocks)
	for b := range g.Blocks {
		var to []int
		for _, k := range f.Blocks[b].End.To {
			if is, _ := ssa.Dominates(f, k, b); !is {
				to = append(to, k)
			}
		}
		g.Blocks[b].End.To = to
	}
	for b := range g.Blocks {
		for _, k := range g.Blocks[b].End.To {
			if reach(g, k, -1)[b] {
				return false
			}
		}
	}
	return true
}

// TestLive is P19.4: what is needed is what ways tell.
func TestLive(t *testing.T) {
	for seed, f := range drawn(250, room) {
		live, e := ssa.Live(f)
		uses, e2 := ssa.Uses(f)
		if e != api.OK || e2 != api.OK || len(uses) != edit.Top(f) {
			t.Fatalf("seed %d: errors %d %d", seed, e, e2)
		}
		counted := make([]int, len(uses))
		for l := range edit.Args(f) {
			for _, v := range l {
				counted[v]++
			}
		}
		if !slices.Equal(uses, counted) {
			t.Fatalf("seed %d: uses %v, want %v", seed, uses, counted)
		}
		for v := range uses {
			for b := range f.Blocks {
				if want := needed(f, b, v); want != slices.Contains(live[b], v) {
					t.Fatalf("seed %d: %d is needed in %d: %v", seed, v, b, want)
				}
			}
		}
		for b, l := range live {
			if !slices.IsSorted(l) || len(slices.Compact(slices.Clone(l))) != len(l) || b == 0 && slices.ContainsFunc(l, func(v int) bool { return v >= len(f.Params) }) {
				t.Fatalf("seed %d: in %d are %v", seed, b, l)
			}
		}
	}
}

// needed reports whether there is a way from the beginning of a block to a use of a value on which it is not made.
func needed(f ssa.Func, block, v int) bool {
	edges := edit.Edges(f)
	first := func(b int) bool { // made at the beginning
		for p, x := range f.Blocks {
			if x.End.Kind == ssa.Try && x.End.To[0] == b && x.End.Call.Result == v && p >= 0 {
				return true
			}
		}
		return slices.ContainsFunc(f.Blocks[b].Ins, func(i ssa.Ins) bool { return i.Op == ssa.Phi && i.Result == v })
	}
	met := map[int]bool{}
	var walk func(b int) bool
	walk = func(b int) bool {
		if met[b] || first(b) {
			return false
		}
		met[b] = true
		x := f.Blocks[b]
		for _, i := range x.Ins {
			if i.Op != ssa.Phi && slices.Contains(i.Args, v) {
				return true
			}
			if i.Result == v {
				return false
			}
		}
		if slices.Contains(slices.Concat(x.End.Args, x.End.Call.Args), v) {
			return true
		}
		for _, to := range x.End.To {
			for k, e := range edges[to] {
				for _, i := range f.Blocks[to].Ins {
					if i.Op == ssa.Phi && e.From == b && i.Args[k] == v {
						return true
					}
				}
			}
			if walk(to) {
				return true
			}
		}
		return false
	}
	return walk(block)
}

// TestClean is P19.5.
func TestClean(t *testing.T) {
	cut := 0
	for seed, f := range drawn(300, variables) {
		c, e := ssa.Clean(f)
		again, e2 := ssa.Clean(c)
		if e != api.OK || e2 != api.OK || told(c) != told(again) || !ssa.Equal(f, c) || !ssa.Equal(c, f) || !ssa.Equal(f, f) {
			t.Fatalf("seed %d: Clean: errors %d %d", seed, e, e2)
		}
		next := len(f.Params)
		for i := range edit.Instructions(c) {
			if i.Result != next {
				t.Fatalf("seed %d: %d is numbered %d", seed, next, i.Result)
			}
			next++
		}
		// Blocks that are not reached, and jump to the others, go.
		g := edit.Clone(f)
		n := len(g.Blocks)
		g.Blocks = append(g.Blocks, ssa.Block{End: ssa.End{Kind: ssa.Jump, To: []int{n + 1}}}, ssa.Block{End: ssa.End{Kind: ssa.Jump, To: []int{max(1, n-1)}}})
		for at, i := range g.Blocks[max(1, n-1)].Ins {
			if i.Op == ssa.Phi {
				g.Blocks[n-1].Ins[at].Args = append(i.Args, 0)
			}
		}
		if c2, e := ssa.Clean(g); e != api.OK || told(c2) != told(c) {
			t.Fatalf("seed %d: with more blocks: error %d", seed, e)
		}
		if ssa.Equal(f, g) {
			t.Fatalf("seed %d: it is equal to one with more blocks", seed)
		}
		cut++
	}
	if cut < 300 {
		t.Errorf("%d functions", cut)
	}
}

// TestPromote is P19.6.
func TestPromote(t *testing.T) {
	phis, open := 0, 0
	for seed, f := range drawn(1200, variables) {
		p, e := ssa.Promote(f)
		if want := isOpen(f); (e == ssa.ErrUse) != want || e != api.OK && e != ssa.ErrUse {
			t.Fatalf("seed %d: error %d, open: %v", seed, e, want)
		}
		if e != api.OK {
			open++
			continue
		}
		c, e := ssa.Clean(p)
		if e != api.OK || told(c) != told(p) {
			t.Fatalf("seed %d: it is not clean: error %d", seed, e)
		}
		count := 0
		for i := range edit.Instructions(p) {
			if i.Op == ssa.Load || i.Op == ssa.Store {
				t.Fatalf("seed %d: a load or a store is left", seed)
			}
			if i.Op == ssa.Phi {
				count++
			}
		}
		for i := range edit.Instructions(f) {
			if i.Op == ssa.Phi {
				count--
			}
		}
		if want := meetings(f); count != want {
			text, _ := ssa.Print([]ssa.Func{f, p})
			t.Fatalf("seed %d: %d phis are made, want %d:\n%s", seed, count, want, text)
		}
		phis += count
		again, e := ssa.Promote(p)
		if e != api.OK || told(again) != told(p) {
			t.Fatalf("seed %d: Promote of Promote is another one", seed)
		}
		for k := range 4 {
			args := []api.Value{edit.Truth(k%2 == 0), number(uint64(k)), edit.Truth(k > 1)}[:len(f.Params)]
			a, b := play.Run(ssa.Program{Funcs: []ssa.Func{f}}, 0, args, 60), play.Run(ssa.Program{Funcs: []ssa.Func{p}}, 0, args, 60)
			if !play.Alike(a, b) {
				text, _ := ssa.Print([]ssa.Func{f, p})
				t.Fatalf("seed %d: it does %v, and then %v:\n%s", seed, a, b, text)
			}
		}
	}
	if phis < 100 || open < 100 {
		t.Errorf("%d phis, %d open functions", phis, open)
	}
}

// reads returns whether a block reads a variable ahead of all stores in it, and whether it stores it.
func reads(f ssa.Func, b int, name string) (read, stored bool) {
	uses, _ := ssa.Uses(f)
	for _, i := range f.Blocks[b].Ins {
		if i.Text != name {
			continue
		}
		if !stored && (i.Op == ssa.Load || i.Op == ssa.Store && uses[i.Result] > 0) {
			read = true
		}
		stored = stored || i.Op == ssa.Store
	}
	return read, stored
}

// isRead reports whether there is a way from the beginning of a block to a read of a variable without a store ahead.
func isRead(f ssa.Func, block int, name string) bool {
	met := map[int]bool{}
	var walk func(b int) bool
	walk = func(b int) bool {
		if met[b] {
			return false
		}
		met[b] = true
		read, stored := reads(f, b, name)
		return read || !stored && slices.ContainsFunc(f.Blocks[b].End.To, walk)
	}
	return walk(block)
}

func isOpen(f ssa.Func) bool { return isRead(f, 0, "x") || isRead(f, 0, "y") }

// meetings returns how many phis the variables of a function need.
func meetings(f ssa.Func) int {
	frontier, _ := ssa.Frontier(f)
	n := 0
	for _, name := range []string{"x", "y"} {
		in := map[int]bool{}
		for changed := true; changed; {
			changed = false
			for b := range f.Blocks {
				if _, stored := reads(f, b, name); !stored && !in[b] {
					continue
				}
				for _, to := range frontier[b] {
					changed = changed || !in[to]
					in[to] = true
				}
			}
		}
		for b := range in {
			if isRead(f, b, name) {
				n++
			}
		}
	}
	return n
}

// TestTexts is P19.7 for drawn functions.
func TestTexts(t *testing.T) {
	var all []ssa.Func
	for seed, f := range drawn(200, variables) {
		all = append(all, f)
		s, e := ssa.Print(all[len(all)-min(3, len(all)):])
		l, line, e2 := ssa.Parse(s)
		if e != api.OK || e2 != api.OK || line != 0 || told(l) != told(all[len(all)-min(3, len(all)):]) {
			t.Fatalf("seed %d: Print has the error %d, Parse %d in the line %d", seed, e, e2, line)
		}
		if again, _ := ssa.Print(l); again != s {
			t.Fatalf("seed %d: the text is another one", seed)
		}
	}
}

// TestEqual holds that Equal sees each field, and no numbers of values.
func TestEqual(t *testing.T) {
	for seed, f := range drawn(150, variables) {
		m := draw.New(seed + 9)
		g := edit.Clone(f)
		shift := edit.Top(g) + m.Below(50)
		names := map[int]int{}
		for v := range g.Params {
			names[v] = v
		}
		for i := range edit.Instructions(g) {
			names[i.Result] = shift
			i.Result = shift
			shift++
		}
		for l := range edit.Args(g) {
			for k, v := range l {
				l[k] = names[v]
			}
		}
		if !ssa.Equal(f, g) {
			t.Fatalf("seed %d: other numbers make it another one", seed)
		}
		h := edit.Clone(g)
		switch m.Below(6) {
		case 0:
			h.Name += "x"
		case 1:
			h.Partial = !h.Partial
		case 2:
			h.Result.Cap++
		case 3:
			h.Params[0].Name += "y"
			h.Params = slices.Clone(h.Params)
			f.Params = slices.Clone(f.Params)
			f.Params[0].Name = ""
		default:
			changed := false
			for i := range edit.Instructions(h) {
				switch {
				case len(i.Args) > 0 && i.Args[0] > 0:
					i.Args[0] = 0
				case i.Op == ssa.Const:
					i.Lit.Hi++
				case i.Op == ssa.Make:
					i.Flag = !i.Flag
				case i.Op == ssa.Get:
					i.Text += "z"
				default:
					i.Type.Mark++
				}
				changed = true
				break
			}
			if !changed {
				h.Blocks[0].End = ssa.End{Kind: ssa.Stuck}
			}
		}
		if told(h) != told(g) && ssa.Equal(f, h) {
			t.Fatalf("seed %d: it is equal to another one", seed)
		}
	}
}
