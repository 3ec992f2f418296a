package ssa

import (
	"unicode/utf8"

	"hackamore/api"
)

// What an instruction may have beside its Args.
const (
	hasText = 1 << iota
	hasName
	hasLit
	hasN
	hasFlag
)

// operation is the name of an operation, how many Args it has, and what else.
type operation struct {
	name        string
	least, most int
	has         int
}

var operations = [OpCount + 1]operation{
	Const:  {"const", 0, 0, hasLit},
	Text:   {"text", 0, 0, hasText},
	Phi:    {"phi", 0, 400, 0},
	Load:   {"load", 0, 0, hasText},
	Store:  {"store", 1, 1, hasText},
	Get:    {"get", 1, 1, hasText},
	Set:    {"set", 2, 2, hasText},
	Make:   {"make", 0, 0, hasText | hasFlag},
	Call:   {"call", 1, 64, hasText},
	Direct: {"direct", 0, 64, hasText},
	Native: {"native", 0, 64, hasText},
	Spawn:  {"spawn", 0, 64, hasText | hasName},
	Send:   {"send", 1, 64, hasText},
	Tuple:  {"tuple", 2, 64, 0},
	Item:   {"item", 1, 1, hasN},
	Is:     {"is", 2, 2, 0},
	Fits:   {"fits", 1, 1, 0},
}

// ending is the name of a kind of end, and how many Args and To it has.
type ending struct {
	name     string
	args, to int
}

var endings = [Stuck + 1]ending{
	Jump:   {"jump", 0, 1},
	Branch: {"branch", 1, 2},
	Return: {"return", 1, 0},
	Error:  {"error", 0, 0},
	Try:    {"try", 0, 2},
	Stuck:  {"stuck", 0, 0},
}

// shaper asks whether a function has the right shape, block by block.
type shaper struct {
	params, blocks int
	made           set // the Results of the instructions ahead
}

// shape returns the first error of the shape of a function, and where it is.
func shape(f Func) (Fault, api.Errno) {
	if len(f.Params) > mostParams || len(f.Blocks) == 0 || len(f.Blocks) > mostBlocks || size(f) > mostIns {
		return Fault{}, api.ErrSize
	}
	if !isName(f.Name) {
		return Fault{}, api.ErrForm
	}
	s := &shaper{len(f.Params), len(f.Blocks), newSet(mostValue + 1)}
	for b, x := range f.Blocks {
		for at, i := range x.Ins {
			e := s.ins(i)
			if e == api.OK && i.Op == Phi && (b == 0 || at > 0 && x.Ins[at-1].Op != Phi) {
				e = ErrPhi
			}
			if e != api.OK {
				return Fault{Block: b, At: at}, e
			}
		}
		if e := s.end(x.End); e != api.OK {
			return Fault{Block: b, At: len(x.Ins)}, e
		}
	}
	return Fault{}, api.OK
}

// size returns the number of instructions of a function, with the Calls of tries.
func size(f Func) int {
	n := 0
	for _, x := range f.Blocks {
		n += len(x.Ins)
		if x.End.Kind == Try {
			n++
		}
	}
	return n
}

func isName(s string) bool { return len(s) <= 200 && utf8.ValidString(s) }

// ins returns the error of an instruction, but for the place of a phi.
func (s *shaper) ins(i Ins) api.Errno {
	if i.Op < 1 || i.Op > OpCount {
		return api.ErrArg
	}
	o := operations[i.Op]
	if len(i.Args) < o.least || len(i.Args) > o.most {
		return api.ErrSize
	}
	if !isFormed(i, o.has) {
		return api.ErrForm
	}
	if !areValues(i.Args) || i.Result < s.params || i.Result > mostValue {
		return api.ErrRange
	}
	if s.made.has(i.Result) {
		return api.ErrTwice
	}
	s.made.put(i.Result)
	return api.OK
}

// areValues reports whether all numbers may be those of values.
func areValues(l []int) bool {
	for _, v := range l {
		if v < 0 || v > mostValue {
			return false
		}
	}
	return true
}

// isFormed reports whether an instruction has just what its operation names.
func isFormed(i Ins, has int) bool {
	switch {
	case i.Op == Text:
		if len(i.Text) > 4000 || !utf8.ValidString(i.Text) {
			return false
		}
	case has&hasText == 0:
		if i.Text != "" {
			return false
		}
	case i.Text == "" || !isName(i.Text):
		return false
	}
	if has&hasName == 0 && i.Name != "" || has&hasName != 0 && (i.Name == "" || !isName(i.Name)) {
		return false
	}
	if has&hasN == 0 && i.N != 0 || i.N < 0 || i.N > 63 || has&hasFlag == 0 && i.Flag {
		return false
	}
	if has&hasLit == 0 {
		return isNothing(i.Lit)
	}
	return isSmall(i.Lit, 8)
}

// isSmall reports whether no value in a value has more than 64 Kids, and it has at most a depth.
func isSmall(v api.Value, depth int) bool {
	if depth == 0 || len(v.Kids) > 64 {
		return false
	}
	for _, k := range v.Kids {
		if !isSmall(k, depth-1) {
			return false
		}
	}
	return true
}

// isNothing reports whether a value is the zero one.
func isNothing(v api.Value) bool {
	return v.Kind == 0 && v.Lo == 0 && v.Hi == 0 && v.Name == "" && len(v.Kids) == 0
}

// isZero reports whether an instruction is the zero one.
func isZero(i Ins) bool {
	t := i.Type
	return i.Op == 0 && i.Result == 0 && len(i.Args) == 0 && i.Text == "" && i.Name == "" && i.N == 0 && !i.Flag && isNothing(i.Lit) &&
		t.Kind == 0 && t.Name == "" && t.Cap == 0 && t.Mark == 0 && len(t.Args) == 0
}

// end returns the error of an end.
func (s *shaper) end(x End) api.Errno {
	if x.Kind < Jump || x.Kind > Stuck {
		return api.ErrArg
	}
	o := endings[x.Kind]
	if len(x.Args) != o.args || len(x.To) != o.to {
		return api.ErrSize
	}
	if !areValues(x.Args) {
		return api.ErrRange
	}
	if x.Kind == Try {
		if x.Call.Op != Call && x.Call.Op != Direct {
			return api.ErrArg
		}
		if e := s.ins(x.Call); e != api.OK {
			return e
		}
	} else if !isZero(x.Call) {
		return api.ErrArg
	}
	for _, b := range x.To {
		if b < 1 || b >= s.blocks {
			return ErrBlock
		}
	}
	if x.Kind == Try && x.To[0] == x.To[1] {
		return ErrBlock
	}
	return api.OK
}
