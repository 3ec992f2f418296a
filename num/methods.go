package num

import (
	"strings"

	"hackamore/api"
)

// The methods, in their order; those of all number types stand around those of integers, or of floats.
const (
	arithmetic  = "add sub mul div rem"
	comparisons = "eq ne lt le gt ge"
	conversions = "i8 i16 i32 i64 i128 isize u8 u16 u32 u64 u128 usize f32 f64"
)

// Signature is what a method of a number type takes and returns.
type Signature struct {
	Name    string
	Params  []string
	Result  string
	Partial bool
}

// signatures is a list of methods of a type.
type signatures struct {
	typ  string
	list []Signature
}

// unary adds methods without parameters, and binary those with one of the type itself.
func (s *signatures) unary(names, result string) {
	for _, name := range strings.Fields(names) {
		s.list = append(s.list, Signature{Name: name, Result: result})
	}
}

func (s *signatures) binary(names, result string, partial bool) {
	for _, name := range strings.Fields(names) {
		s.list = append(s.list, Signature{Name: name, Params: []string{s.typ}, Result: result, Partial: partial})
	}
}

// Methods returns the methods of a number type, or of Bool.
func Methods(typ string) ([]Signature, api.Errno) {
	s := &signatures{typ: typ}
	if typ == "Bool" {
		s.binary("eq ne op_and op_or op_xor", typ, false)
		s.unary("op_not", typ)
		s.unary("string", "String")
		return s.list, api.OK
	}
	i := find(typ)
	if i < 0 {
		return nil, api.ErrNone
	}
	s.binary(arithmetic, typ, false)
	s.binary(strings.ReplaceAll(arithmetic+" ", " ", "_partial "), typ, true)
	s.unary("neg", typ)
	s.binary(comparisons, "Bool", false)
	s.binary("min max", typ, false)
	s.unary("abs", typ)
	if infos[i].float {
		s.unary("sqrt floor ceil trunc round", typ)
		s.unary("finite nan", "Bool")
	} else {
		s.binary("op_and op_or op_xor", typ, false)
		s.unary("op_not", typ)
		s.binary("shl shr", typ, false)
		s.unary("popcount clz ctz", typ)
	}
	for k, name := range strings.Fields(conversions) {
		s.unary(name, infos[k].name)
	}
	s.unary("string", "String")
	return s.list, api.OK
}

// operation is what a method does with the bits of its receiver and of its argument, if it has one.
type operation struct {
	params int
	run    func(x, y wide) (result api.Value, raised bool)
}

// Call calls a method of a number, or of a Bool: the receiver is the first argument.
func Call(typ, method string, args []api.Value) (result api.Value, raised bool, e api.Errno) {
	kind, op, ok := operationOf(typ, method)
	if !ok {
		return api.Value{}, false, api.ErrNone
	}
	if len(args) != op.params+1 {
		return api.Value{}, false, api.ErrSize
	}
	var bits [2]wide
	for i, v := range args {
		if v.Kind != kind || Check(v) != api.OK {
			return api.Value{}, false, api.ErrType
		}
		bits[i] = wide{v.Hi, v.Lo}
	}
	result, raised = op.run(bits[0], bits[1])
	if raised {
		return api.Value{}, true, api.OK
	}
	return result, false, api.OK
}

// operationOf returns the kind of a type's values, and what a method of it does.
func operationOf(typ, method string) (int, operation, bool) {
	if typ == "Bool" {
		op, ok := boolOperation(method)
		return api.ValBool, op, ok
	}
	i := find(typ)
	if i < 0 {
		return 0, operation{}, false
	}
	op, ok := conversion(i, method)
	if !ok {
		switch i {
		case tF32:
			op, ok = reals[float32]{i, toF32, fromF32}.operation(method)
		case tF64:
			op, ok = reals[float64]{i, toF64, fromF64}.operation(method)
		default:
			op, ok = integers{i, infos[i]}.operation(method)
		}
	}
	return api.ValNumber + i, op, ok
}

func boolOperation(method string) (operation, bool) {
	if method == "op_not" {
		return operation{0, func(x, _ wide) (api.Value, bool) { return truth(x.lo == 0), false }}, true
	}
	test := map[string]func(x, y uint64) bool{
		"eq":     func(x, y uint64) bool { return x == y },
		"ne":     func(x, y uint64) bool { return x != y },
		"op_and": func(x, y uint64) bool { return x&y > 0 },
		"op_or":  func(x, y uint64) bool { return x|y > 0 },
		"op_xor": func(x, y uint64) bool { return x^y > 0 },
	}[method]
	return operation{1, func(x, y wide) (api.Value, bool) { return truth(test(x.lo, y.lo)), false }}, test != nil
}

// conversion returns the operation of a method that is named as a type.
func conversion(from int, method string) (operation, bool) {
	for to, name := range strings.Fields(conversions) {
		if name == method {
			return operation{0, func(x, _ wide) (api.Value, bool) { return value(to, convert(x, from, to)), false }}, true
		}
	}
	return operation{}, false
}

func convert(x wide, from, to int) wide {
	source, target := infos[from], infos[to]
	if source.float {
		f := toF64(x)
		if from == tF32 {
			f = float64(toF32(x))
		}
		if target.float {
			return rounded(f, to)
		}
		return nearest(f, target)
	}
	n := exactOf(x, source)
	if target.float {
		return rounded(toFloat(n, target.bits), to)
	}
	return n.bits(target)
}

// rounded returns the bits of the nearest float of a type.
func rounded(x float64, to int) wide {
	if to == tF32 {
		return fromF32(float32(x))
	}
	return fromF64(x)
}

// nearest returns the bits of the integer of a type that is nearest to a float, of which nothing is behind the point.
func nearest(x float64, t info) wide {
	if x != x {
		return wide{}
	}
	n := toExact(x)
	if n.fits(t) {
		return n.bits(t)
	}
	least := wide{}
	if t.signed {
		least = shiftUp(wide{0, 1}, t.bits-1)
	}
	if n.negative {
		return least
	}
	return cut(minus(least, wide{0, 1}), t.bits)
}

// comparison returns the test of a method, of -1, 0 or 1 for numbers in an order, and of 2 for others.
func comparison(method string) func(c int) bool {
	return map[string]func(c int) bool{
		"eq": func(c int) bool { return c == 0 },
		"ne": func(c int) bool { return c != 0 },
		"lt": func(c int) bool { return c < 0 },
		"le": func(c int) bool { return c <= 0 },
		"gt": func(c int) bool { return c == 1 },
		"ge": func(c int) bool { return c == 0 || c == 1 },
	}[method]
}
