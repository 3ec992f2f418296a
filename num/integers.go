package num

import (
	"math/bits"
	"strings"

	"hackamore/api"
)

// integers are the operations of a type of integers.
type integers struct {
	typ int
	info
}

func (t integers) operation(method string) (operation, bool) {
	base, partial := strings.CutSuffix(method, "_partial")
	if op, ok := t.arithmetic(base, partial); ok {
		return op, true
	}
	if test := comparison(method); test != nil {
		return operation{1, func(x, y wide) (api.Value, bool) { return truth(test(t.compare(x, y))), false }}, true
	}
	if f := t.pairs()[method]; f != nil {
		return operation{1, func(x, y wide) (api.Value, bool) { return value(t.typ, cut(f(x, y), t.bits)), false }}, true
	}
	if f := t.singles()[method]; f != nil {
		return operation{0, func(x, _ wide) (api.Value, bool) { return value(t.typ, cut(f(x), t.bits)), false }}, true
	}
	return operation{}, false
}

func (t integers) arithmetic(method string, partial bool) (operation, bool) {
	f := map[string]func(x, y exact) exact{
		"add": exact.plus,
		"sub": exact.minus,
		"mul": exact.times,
		"div": exact.divide,
		"rem": exact.rest,
	}[method]
	run := func(x, y wide) (api.Value, bool) {
		a, b := exactOf(x, t.info), exactOf(y, t.info)
		n := f(a, b)
		// The remainder of the least number by -1 is 0, but its division is none.
		raised := !n.fits(t.info) || method == "rem" && !a.divide(b).fits(t.info)
		return value(t.typ, n.bits(t.info)), partial && raised
	}
	return operation{1, run}, f != nil
}

// compare returns -1, 0 or 1.
func (t integers) compare(x, y wide) int {
	a, b := exactOf(x, t.info), exactOf(y, t.info)
	switch {
	case a.negative && b.negative:
		return compare(b.size, a.size)
	case a.negative:
		return -1
	case b.negative:
		return 1
	}
	return compare(a.size, b.size)
}

func (t integers) pairs() map[string]func(x, y wide) wide {
	return map[string]func(x, y wide) wide{
		"min": func(x, y wide) wide {
			if t.compare(x, y) <= 0 {
				return x
			}
			return y
		},
		"max": func(x, y wide) wide {
			if t.compare(x, y) >= 0 {
				return x
			}
			return y
		},
		"op_and": func(x, y wide) wide { return wide{x.hi & y.hi, x.lo & y.lo} },
		"op_or":  func(x, y wide) wide { return wide{x.hi | y.hi, x.lo | y.lo} },
		"op_xor": func(x, y wide) wide { return wide{x.hi ^ y.hi, x.lo ^ y.lo} },
		"shl":    func(x, y wide) wide { return shiftUp(x, t.shift(y)) },
		"shr":    func(x, y wide) wide { return shiftDown(spread(x, t.info), t.shift(y), t.signed) },
	}
}

// shift returns by how much to shift; by 128 all bits are out.
func (t integers) shift(y wide) int {
	if y.hi > 0 || y.lo >= uint64(t.bits) {
		return 128
	}
	return int(y.lo)
}

func (t integers) singles() map[string]func(x wide) wide {
	return map[string]func(x wide) wide{
		"neg":      func(x wide) wide { return minus(wide{}, x) },
		"abs":      func(x wide) wide { return exactOf(x, t.info).size },
		"op_not":   func(x wide) wide { return wide{^x.hi, ^x.lo} },
		"popcount": func(x wide) wide { return small(bits.OnesCount64(x.hi) + bits.OnesCount64(x.lo)) },
		"clz":      func(x wide) wide { return small(t.bits - x.length()) },
		"ctz": func(x wide) wide {
			lowest := minus(x, wide{0, 1}).without(x)
			return small(min(lowest.length(), t.bits))
		},
	}
}

func small(n int) wide { return wide{0, uint64(n)} }

// without returns the bits of a that b has not.
func (a wide) without(b wide) wide { return wide{a.hi &^ b.hi, a.lo &^ b.lo} }
