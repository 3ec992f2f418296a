package num

import (
	"math"
	"strconv"
	"strings"
)

// The bits of what is not a number.
const (
	nan32 = 0x7fc00000
	nan64 = 0x7ff8000000000000
)

func toF32(a wide) float32 { return math.Float32frombits(uint32(a.lo)) }

func toF64(a wide) float64 { return math.Float64frombits(a.lo) }

func fromF32(x float32) wide {
	if x != x {
		return wide{0, nan32}
	}
	return wide{0, uint64(math.Float32bits(x))}
}

func fromF64(x float64) wide {
	if x != x {
		return wide{0, nan64}
	}
	return wide{0, math.Float64bits(x)}
}

// toFloat returns the float to which an integer is the nearest one, of 32 or 64 bits.
func toFloat(n exact, bits int) float64 {
	shift := max(0, n.size.length()-64)
	top := shiftDown(n.size, shift, false)
	if shiftUp(top, shift) != n.size { // what is cut off counts for the rounding
		top.lo |= 1
	}
	x := 0.0
	if bits == 32 {
		x = float64(float32(top.lo))
	} else {
		x = float64(top.lo)
	}
	x = math.Ldexp(x, shift)
	if n.negative {
		return -x
	}
	return x
}

// toExact returns the integer of a float without what is behind the point; an infinite one, or one of 2^128 and more, is beyond.
func toExact(x float64) exact {
	n := exact{negative: math.Signbit(x)}
	size := math.Trunc(math.Abs(x))
	if size >= math.Ldexp(1, 128) {
		n.over = true
		return n
	}
	hi := math.Trunc(math.Ldexp(size, -64))
	n.size = wide{uint64(hi), uint64(size - math.Ldexp(hi, 64))}
	return n
}

// floatText returns the text of a float of 32 or 64 bits.
func floatText(x float64, bits int) string {
	switch {
	case x != x:
		return "nan"
	case math.Signbit(x):
		return "-" + floatText(-x, bits)
	case math.IsInf(x, 1):
		return "inf"
	case x == 0:
		return "0.0"
	}
	shortest := strconv.FormatFloat(x, 'e', -1, bits)
	front, exponent, _ := strings.Cut(shortest, "e")
	power, _ := strconv.Atoi(exponent)
	return placed(strings.Replace(front, ".", "", 1), power+1)
}

// placed returns the text of 0.digits times ten to a power.
func placed(digits string, power int) string {
	if power < -3 || power > 15 {
		return pointed(digits, 1) + "e" + strconv.Itoa(power-1)
	}
	if power <= 0 {
		return pointed(strings.Repeat("0", 1-power)+digits, 1)
	}
	return pointed(digits, power)
}

// pointed returns digits with a point behind some of them, and at least one behind the point.
func pointed(digits string, at int) string {
	if missing := at + 1 - len(digits); missing > 0 {
		digits += strings.Repeat("0", missing)
	}
	return digits[:at] + "." + digits[at:]
}

// readFloat returns the bits of the float with a text.
func readFloat(s string, bits int) (wide, bool) {
	if !isFloat(s) {
		return wide{}, false
	}
	x, _ := strconv.ParseFloat(s, bits) // beyond the greatest one it is infinite, with an error
	if bits == 32 {
		return fromF32(float32(x)), true
	}
	return fromF64(x), true
}

// isFloat reports whether a text has the form of a float.
func isFloat(s string) bool {
	if s == "nan" || s == "inf" || s == "-inf" {
		return true
	}
	s, ok := cutDigits(strings.TrimPrefix(s, "-"))
	if !ok {
		return false
	}
	if rest, point := strings.CutPrefix(s, "."); point {
		if s, ok = cutDigits(rest); !ok {
			return false
		}
	}
	if rest, exponent := strings.CutPrefix(s, "e"); exponent {
		if rest != "" && (rest[0] == '+' || rest[0] == '-') {
			rest = rest[1:]
		}
		if s, ok = cutDigits(rest); !ok {
			return false
		}
	}
	return s == ""
}

// cutDigits returns what stands behind the digits with which a text begins, and whether there are any.
func cutDigits(s string) (string, bool) {
	rest := strings.TrimLeft(s, "0123456789")
	return rest, len(rest) < len(s)
}
