package draw

import (
	"slices"
	"strconv"

	"hackamore/api"
	"hackamore/notation"
	"hackamore/num"
	"hackamore/ssa"
)

// Room says what drawn functions of the intermediate form may have.
type Room struct {
	Blocks, Ins int        // at most so many blocks, and instructions in each
	Variables   bool       // loads and stores, perhaps of variables that have no value
	Calls       []ssa.Func // functions that may be called directly
	Partial     bool       // whether it may be partial
}

// former draws a function.
type former struct {
	*Maker
	Room
	f      ssa.Func
	alone  map[int]bool  // blocks that must have no other predecessor
	makes  map[int]bool  // values that are new objects
	ends   map[int][]int // the values that are there at the end of a block
	values int
}

// Func returns a right function.
func (m *Maker) Func(name string, r Room) ssa.Func {
	d := &former{Maker: m, Room: r, alone: map[int]bool{}, makes: map[int]bool{}, ends: map[int][]int{}}
	d.f = ssa.Func{Name: name, Result: notation.Type("U8 val"), Partial: r.Partial && m.Below(3) == 0}
	for range 1 + m.Below(3) {
		d.f.Params = append(d.f.Params, d.typ())
	}
	d.values = len(d.f.Params)
	d.f.Blocks = make([]ssa.Block, 1)
	for b := 0; b < len(d.f.Blocks); b++ {
		d.end(b)
	}
	d.fill()
	return d.f
}

func (d *former) typ() api.Type {
	return notation.Type(One(d.Maker, "", "U8 val", "main.C ref", "main.T ref", "main.I box", "(main.C ref | main.D ref)"))
}

// target returns a block to which an end may go, perhaps a new one.
func (d *former) target(alone bool) (int, bool) {
	n := len(d.f.Blocks)
	if !alone && n > 1 && (n >= d.Blocks || d.Below(2) == 0) {
		for range 6 {
			if b := 1 + d.Below(n-1); !d.alone[b] {
				return b, true
			}
		}
	}
	if n >= d.Blocks {
		return 0, false
	}
	d.f.Blocks = append(d.f.Blocks, ssa.Block{})
	d.alone[n] = alone
	return n, true
}

// end draws the end of a block, but for its Args.
func (d *former) end(b int) {
	x := ssa.End{Kind: One(d.Maker, ssa.Jump, ssa.Jump, ssa.Branch, ssa.Branch, ssa.Branch, ssa.Try, ssa.Return, ssa.Stuck)}
	if d.f.Partial && d.Below(8) == 0 {
		x.Kind = ssa.Error
	}
	count := map[int]int{ssa.Jump: 1, ssa.Branch: 2, ssa.Try: 2}[x.Kind]
	for k := range count {
		to, ok := d.target(x.Kind == ssa.Try && k == 0)
		if !ok {
			x.Kind = []int{ssa.Return, ssa.Jump}[k]
			break
		}
		x.To = append(x.To, to)
	}
	if x.Kind == ssa.Branch || x.Kind == ssa.Return {
		x.Args = []int{0}
	}
	if x.Kind == ssa.Try {
		x.Call = ssa.Ins{Op: ssa.Call, Text: "m", Args: []int{0}, Result: d.value()}
	}
	d.f.Blocks[b].End = x
}

// value returns a number for a value.
func (d *former) value() int {
	d.values += 1 + d.Below(10)/9
	return d.values - 1
}

// fill draws the instructions of all blocks.
func (d *former) fill() {
	above, e := ssa.Dominators(d.f)
	if e != api.OK {
		panic("draw: no function: " + e.Error())
	}
	preds, _ := ssa.Preds(d.f)
	order, _ := ssa.Order(d.f)
	for _, b := range order {
		there := []int{}
		for v := range d.f.Params {
			there = append(there, v)
		}
		if a := above[b]; a >= 0 {
			there = append([]int{}, d.ends[a]...)
			if x := d.f.Blocks[a].End; x.Kind == ssa.Try && x.To[0] == b {
				there = append(there, x.Call.Result)
			}
		}
		d.block(b, there, len(preds[b]))
	}
	for b, x := range d.f.Blocks {
		for at, i := range x.Ins {
			for k := range i.Args {
				if i.Op == ssa.Phi {
					x.Ins[at].Args[k] = d.recent(d.ends[preds[b][k]])
				}
			}
		}
	}
}

// recent returns one of some values, most often one of the last ones, and no new object, so that some of these are met nowhere else.
func (d *former) recent(l []int) int {
	v := 0
	for range 4 {
		if v = One(d.Maker, l...); d.Below(2) == 0 {
			v = l[len(l)-1-d.Below(min(4, len(l)))]
		}
		if !d.makes[v] {
			break
		}
	}
	return v
}

// block draws the instructions of a block, and the Args of its end.
func (d *former) block(b int, there []int, preds int) {
	x := &d.f.Blocks[b]
	if preds > 0 && d.Below(2) == 0 {
		for range 1 + d.Below(2) {
			x.Ins = append(x.Ins, ssa.Ins{Op: ssa.Phi, Result: d.value(), Args: make([]int, preds)})
		}
	}
	for _, i := range x.Ins {
		there = append(there, i.Result)
	}
	if b == 0 && d.Variables && d.Below(4) > 0 {
		for _, name := range []string{"x", "y"} {
			x.Ins = append(x.Ins, ssa.Ins{Op: ssa.Store, Text: name, Args: []int{0}, Type: d.typ(), Result: d.value()})
		}
	}
	for range d.Below(d.Ins + 1) {
		i := d.ins(there)
		i.Result = d.value()
		x.Ins = append(x.Ins, i)
		there = append(there, i.Result)
		d.makes[i.Result] = i.Op == ssa.Make
	}
	for k := range x.End.Args {
		x.End.Args[k] = d.recent(there)
	}
	if x.End.Kind == ssa.Try {
		result := x.End.Call.Result
		x.End.Call = d.call(there)
		x.End.Call.Result = result
	}
	d.ends[b] = there
}

// call draws a call, or a direct.
func (d *former) call(there []int) ssa.Ins {
	if len(d.Calls) > 0 && d.Below(3) > 0 {
		f := One(d.Maker, d.Calls...)
		i := ssa.Ins{Op: ssa.Direct, Text: f.Name}
		for range f.Params {
			i.Args = append(i.Args, d.recent(there))
		}
		return i
	}
	i := ssa.Ins{Op: ssa.Call, Text: One(d.Maker, "m", "m", "n"), Args: []int{d.recent(there)}, Type: d.typ()}
	if d.Below(2) == 0 {
		i.Args[0] = d.Below(len(d.f.Params))
	}
	if d.Below(2) == 0 {
		i.Args = append(i.Args, d.recent(there))
	}
	return i
}

// object returns one of some values, most often the last one that is a new object.
func (d *former) object(l []int) int {
	if d.Below(4) > 0 {
		for _, v := range slices.Backward(l) {
			if d.makes[v] {
				return v
			}
		}
	}
	return d.recent(l)
}

// variable draws a load or a store.
func (d *former) variable(there []int) ssa.Ins {
	if d.Below(2) == 0 {
		return ssa.Ins{Op: ssa.Load, Text: One(d.Maker, "x", "y")}
	}
	return ssa.Ins{Op: ssa.Store, Text: One(d.Maker, "x", "y"), Args: []int{d.recent(there)}, Type: d.typ()}
}

// ins draws an instruction that is no phi.
func (d *former) ins(there []int) ssa.Ins {
	one := func() []int { return []int{d.recent(there)} }
	two := func() []int { return []int{d.recent(there), d.recent(there)} }
	small := func() api.Value {
		v, _ := num.Of("U8", uint64(d.Below(3)))
		return v
	}
	if d.Variables && d.Below(3) == 0 {
		return d.variable(there)
	}
	switch d.Below(26) {
	case 0, 1, 2:
		return ssa.Ins{Op: ssa.Const, Lit: small()}
	case 3:
		return ssa.Ins{Op: ssa.Const, Lit: api.Value{Kind: api.ValBool, Lo: uint64(d.Below(2))}}
	case 4, 5, 6:
		return ssa.Ins{Op: ssa.Native, Text: "U8." + One(d.Maker, "add", "lt", "div_partial", "eq"), Args: two()}
	case 7:
		return ssa.Ins{Op: ssa.Tuple, Args: two()}
	case 8, 9:
		return ssa.Ins{Op: ssa.Item, N: d.Below(3), Args: one()}
	case 10:
		return ssa.Ins{Op: ssa.Is, Args: two()}
	case 11:
		return ssa.Ins{Op: ssa.Fits, Type: notation.Type("U8 val"), Args: one()}
	case 12, 13:
		return ssa.Ins{Op: ssa.Make, Text: "main.C", Type: notation.Type("main.C ref")}
	case 14, 15, 22, 23:
		return ssa.Ins{Op: ssa.Get, Text: One(d.Maker, "f", "g"), Args: []int{d.object(there)}}
	case 16, 17, 24:
		return ssa.Ins{Op: ssa.Set, Text: One(d.Maker, "f", "g"), Args: []int{d.object(there), d.recent(there)}}
	case 18:
		return ssa.Ins{Op: ssa.Text, Text: "t" + strconv.Itoa(d.Below(2))}
	case 19:
		return ssa.Ins{Op: ssa.Send, Text: "b", Args: two()}
	case 20:
		return ssa.Ins{Op: ssa.Spawn, Name: "main.A", Text: "create", Args: one()}
	}
	return d.call(there)
}

// Funcs returns a right program of the intermediate form with some functions.
func (m *Maker) Funcs(r Room) ssa.Program {
	p := ssa.Program{Entities: notation.Program(`
		class ref main.C is main.T ref
		fun box m(): U8 val
		class ref main.D is main.T ref
		fun box m(): U8 val
		fun box n(x: U8 val): U8 val
		trait ref main.T
		fun box m(): U8 val
		interface box main.I
		fun box n(x: U8 val): U8 val
		primitive val U8
	`)}
	for _, name := range []string{"main.C.m", "main.D.m", "main.D.n", "main.f", "main.g"} {
		r.Calls = p.Funcs
		p.Funcs = append(p.Funcs, m.Func(name, r))
	}
	return p
}
