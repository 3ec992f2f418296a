package optimize

import (
	"slices"

	"hackamore/edit"
	"hackamore/ssa"
)

// likeness is what instructions have in common that may be alike: their operation, the block of a phi, their first Args, the bits of
// a literal, and so on.
type likeness struct {
	op, block, n, count int
	args                [3]int
	bits                [2]uint64
	text                string
}

// spot is where a value is made, or used: in a block, ahead of the instruction with an index.
type spot struct{ block, at int }

// meeting finds instructions that are alike.
type meeting struct {
	*work
	*changes
	made  []*ssa.Ins
	above []int    // the immediate dominators
	spots []spot   // where values are made
	sites [][]spot // where values are used
	alike map[likeness][]*ssa.Ins
}

// common takes one of two values that are made alike, where it is there wherever the other one is used.
func (w *work) common() bool {
	before := len(w.steps)
	above, _ := ssa.Dominators(*w.Func)
	order, _ := ssa.Order(*w.Func)
	m := &meeting{work: w, changes: w.changes(), made: w.made(), above: above, alike: map[likeness][]*ssa.Ins{}}
	defer m.settle()
	m.find()
	for _, b := range order {
		for at := range w.Blocks[b].Ins {
			m.meet(&w.Blocks[b].Ins[at], b)
		}
	}
	return len(w.steps) > before
}

// find finds where values are made and used.
func (m *meeting) find() {
	m.spots, m.sites = make([]spot, len(m.to)), make([][]spot, len(m.to))
	edges := edit.Edges(*m.Func)
	for b, x := range m.Blocks {
		for at, i := range x.Ins {
			m.spots[i.Result] = spot{b, at + 1}
			for k, v := range i.Args {
				site := spot{b, at}
				if i.Op == ssa.Phi {
					from := edges[b][k].From
					site = spot{from, len(m.Blocks[from].Ins)}
				}
				m.sites[v] = append(m.sites[v], site)
			}
		}
		for _, v := range slices.Concat(x.End.Args, x.End.Call.Args) {
			m.sites[v] = append(m.sites[v], spot{b, len(x.Ins)})
		}
	}
}

// meet compares an instruction with those that it met ahead.
func (m *meeting) meet(i *ssa.Ins, block int) {
	if !edit.Pure(*i) && i.Op != ssa.Phi {
		return
	}
	for k, v := range i.Args {
		i.Args[k] = m.now(v)
	}
	key := likeness{op: i.Op, n: i.N, count: len(i.Args), bits: [2]uint64{i.Lit.Lo, i.Lit.Hi}, text: i.Text}
	copy(key.args[:], i.Args)
	if i.Op == ssa.Phi {
		key.block = block
	}
	l := m.alike[key]
	for n, k := range l {
		for at, v := range k.Args {
			k.Args[at] = m.now(v)
		}
		if !edit.Alike(*i, *k) {
			continue
		}
		if m.serves(k.Result, i.Result) {
			m.merge(i.Result, k.Result)
			return
		}
		if m.serves(i.Result, k.Result) {
			m.merge(k.Result, i.Result)
			l[n] = i
			return
		}
	}
	m.alike[key] = append(l, i)
}

// serves reports whether a value is there wherever another one is used.
func (m *meeting) serves(b, a int) bool {
	s := m.spots[b]
	for _, site := range m.sites[a] {
		if s.block == site.block {
			if s.at > site.at {
				return false
			}
		} else if !m.dominates(s.block, site.block) {
			return false
		}
	}
	return true
}

func (m *meeting) dominates(a, b int) bool {
	for b > -1 && a != b {
		b = m.above[b]
	}
	return a == b
}

// merge does the step by which a value becomes another one.
func (m *meeting) merge(a, b int) {
	m.do(Step{Kind: StepCommon, A: a, B: b})
	m.to[a] = b
	m.gone[a] = true
	m.sites[b] = append(m.sites[b], m.sites[a]...)
}
