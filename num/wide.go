package num

import (
	"math/bits"
	"strconv"
)

// wide is a number of 128 bits, in two halves.
type wide struct {
	hi, lo uint64
}

// cut returns the lower n bits.
func cut(a wide, n int) wide {
	switch {
	case n <= 64:
		return wide{0, a.lo & (1<<n - 1)}
	case n < 128:
		return wide{a.hi & (1<<(n-64) - 1), a.lo}
	}
	return a
}

// spread returns bits of a type as 128 bits: with copies of the sign ahead, if there is one.
func spread(a wide, t info) wide {
	if !t.signed {
		return a
	}
	return shiftDown(shiftUp(a, 128-t.bits), 128-t.bits, true)
}

func plus(a, b wide) wide {
	sum, _ := plusCarry(a, b)
	return sum
}

func plusCarry(a, b wide) (wide, bool) {
	lo, carry := bits.Add64(a.lo, b.lo, 0)
	hi, carry := bits.Add64(a.hi, b.hi, carry)
	return wide{hi, lo}, carry > 0
}

func minus(a, b wide) wide {
	lo, borrow := bits.Sub64(a.lo, b.lo, 0)
	hi, _ := bits.Sub64(a.hi, b.hi, borrow)
	return wide{hi, lo}
}

// times returns a product modulo 2^128, and whether it is beyond.
func times(a, b wide) (wide, bool) {
	up, lo := bits.Mul64(a.lo, b.lo)
	over1, cross1 := bits.Mul64(a.hi, b.lo)
	over2, cross2 := bits.Mul64(a.lo, b.hi)
	hi, carry1 := bits.Add64(up, cross1, 0)
	hi, carry2 := bits.Add64(hi, cross2, 0)
	over := over1|over2|carry1|carry2 > 0 || a.hi > 0 && b.hi > 0
	return wide{hi, lo}, over
}

// compare returns -1, 0 or 1 for numbers without a sign.
func compare(a, b wide) int {
	switch {
	case a == b:
		return 0
	case a.hi < b.hi || a.hi == b.hi && a.lo < b.lo:
		return -1
	}
	return 1
}

// shiftUp shifts by 0 to 128.
func shiftUp(a wide, n int) wide {
	if n >= 64 {
		return wide{a.lo << (n - 64), 0}
	}
	return wide{a.hi<<n | a.lo>>(64-n), a.lo << n}
}

// shiftDown shifts by 0 to 128, and fills with the highest bit, if fill is set, or with 0.
func shiftDown(a wide, n int, fill bool) wide {
	ahead := uint64(0)
	if fill && a.hi>>63 > 0 {
		ahead = ^ahead
	}
	if n >= 64 {
		a, n = wide{ahead, a.hi}, n-64
	}
	if n == 64 {
		return wide{ahead, ahead}
	}
	return wide{a.hi>>n | ahead<<(64-n), a.lo>>n | a.hi<<(64-n)}
}

// divide returns the quotient and what is left, for a divisor above 0.
func divide(a, b wide) (wide, wide) {
	if b.hi == 0 {
		hi := a.hi / b.lo
		lo, left := bits.Div64(a.hi%b.lo, a.lo, b.lo)
		return wide{hi, lo}, wide{0, left}
	}
	shift := bits.LeadingZeros64(b.hi)
	quotient := uint64(0)
	for i := shift; i >= 0; i-- {
		quotient <<= 1
		if d := shiftUp(b, i); compare(a, d) >= 0 {
			a = minus(a, d)
			quotient |= 1
		}
	}
	return wide{0, quotient}, a
}

// length returns the number of bits up to the highest one that is set.
func (a wide) length() int {
	if a.hi > 0 {
		return 64 + bits.Len64(a.hi)
	}
	return bits.Len64(a.lo)
}

// text returns the decimal digits.
func (a wide) text() string {
	if a.hi == 0 {
		return strconv.FormatUint(a.lo, 10)
	}
	high, low := divide(a, wide{0, 10_000_000_000_000_000_000})
	digits := strconv.FormatUint(low.lo, 10)
	for len(digits) < 19 {
		digits = "0" + digits
	}
	return high.text() + digits
}

// exact is an integer by its sign and size; over, if its size is beyond 128 bits.
type exact struct {
	negative bool
	size     wide
	over     bool
}

// exactOf returns the integer that bits of a type stand for.
func exactOf(a wide, t info) exact {
	a = spread(a, t)
	if t.signed && a.hi>>63 > 0 {
		return exact{negative: true, size: minus(wide{}, a)}
	}
	return exact{size: a}
}

// readExact returns the integer with decimal digits.
func readExact(digits string, negative bool) exact {
	n := exact{negative: negative}
	for i := range len(digits) {
		size, over := times(n.size, wide{0, 10})
		size, carry := plusCarry(size, wide{0, uint64(digits[i] - '0')})
		n.size, n.over = size, n.over || over || carry
	}
	return n
}

// fits reports whether an integer is of a type.
func (n exact) fits(t info) bool {
	zero := n.size == wide{}
	switch {
	case n.over:
		return false
	case zero || !n.negative && !t.signed:
		return n.size.length() <= t.bits
	case !n.negative:
		return n.size.length() < t.bits
	case t.signed:
		return minus(n.size, wide{0, 1}).length() < t.bits
	}
	return false
}

// bits returns the bits of an integer in a type, modulo 2^n.
func (n exact) bits(t info) wide {
	if n.negative {
		return cut(minus(wide{}, n.size), t.bits)
	}
	return cut(n.size, t.bits)
}

func (n exact) plus(m exact) exact {
	if n.negative == m.negative {
		size, carry := plusCarry(n.size, m.size)
		return exact{n.negative, size, carry}
	}
	if compare(n.size, m.size) >= 0 {
		return exact{n.negative, minus(n.size, m.size), false}
	}
	return exact{m.negative, minus(m.size, n.size), false}
}

func (n exact) minus(m exact) exact {
	m.negative = !m.negative
	return n.plus(m)
}

func (n exact) times(m exact) exact {
	size, over := times(n.size, m.size)
	return exact{n.negative != m.negative, size, over}
}

// divide returns the quotient without what is behind the point; it is beyond all types for a divisor of 0.
func (n exact) divide(m exact) exact {
	if m.size == (wide{}) {
		return exact{over: true}
	}
	quotient, _ := divide(n.size, m.size)
	return exact{n.negative != m.negative, quotient, false}
}

// rest returns what a division leaves; it is beyond all types for a divisor of 0.
func (n exact) rest(m exact) exact {
	if m.size == (wide{}) {
		return exact{over: true}
	}
	_, left := divide(n.size, m.size)
	return exact{n.negative, left, false}
}
