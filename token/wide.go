package token

import (
	"math/bits"
	"strconv"
)

// wide is a number of 128 bits.
type wide struct {
	hi, lo uint64
}

// push makes n the number base*n + digit, and reports whether it still fits.
func (n *wide) push(base, digit uint64) bool {
	over, hi := bits.Mul64(n.hi, base)
	up, lo := bits.Mul64(n.lo, base)
	lo, carry := bits.Add64(lo, digit, 0)
	hi, carry = bits.Add64(hi, up, carry)
	n.hi, n.lo = hi, lo
	return over == 0 && carry == 0
}

// text returns the decimal digits of n.
func (n wide) text() string {
	const chunk = 10_000_000_000_000_000_000
	if n.hi == 0 {
		return strconv.FormatUint(n.lo, 10)
	}
	high := n.hi / chunk
	low, rest := bits.Div64(n.hi%chunk, n.lo, chunk)
	digits := strconv.FormatUint(rest, 10)
	for len(digits) < 19 {
		digits = "0" + digits
	}
	return wide{high, low}.text() + digits
}
