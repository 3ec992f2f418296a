package numeric

import (
	"iter"
	"math"
	"slices"

	"hackamore/api"
)

// isSize reports whether a transform may have so many points: 1, 2, 4, .., 64.
func isSize(n int) bool { return 1 <= n && n <= MaxPoints && n&(n-1) == 0 }

// angle returns the two numbers that belong to a size: the parts of the first factor, before they are rounded.
func angle(n int) (c, s float64) {
	switch n {
	case 1:
		return 1, 0
	case 2:
		return -1, 0
	case 4:
		return 0, 1
	}
	c, _ = angle(n / 2)
	return math.Sqrt((1 + c) / 2), math.Sqrt((1 - c) / 2)
}

// factors returns the factors of a transform of a size.
func factors(n int) []Number {
	c, s := angle(n)
	first := Of(float32(c), float32(-s))
	w := []Number{Of(1, 0)}
	for len(w) < n {
		w = append(w, Mul(w[len(w)-1], first))
	}
	return w
}

// Twiddles returns the factors of a transform.
func Twiddles(n int) ([]Number, api.Errno) {
	if !isSize(n) {
		return nil, api.ErrSize
	}
	return factors(n), api.OK
}

// everyOther hands on the elements with the indices from, from + 2, ..
func everyOther(l []Number, from int) iter.Seq[Number] {
	return func(yield func(Number) bool) {
		for i := from; i < len(l); i += 2 {
			if !yield(l[i]) {
				return
			}
		}
	}
}

// transformer transforms lists; it computes the factors of each size once.
type transformer struct {
	known map[int][]Number
}

func (t transformer) factors(n int) []Number {
	if t.known[n] == nil {
		t.known[n] = factors(n)
	}
	return t.known[n]
}

// transform returns the transform of a list with a size that fits.
func (t transformer) transform(l []Number) []Number {
	n := len(l)
	if n == 1 {
		return []Number{number(l[0].value())}
	}
	even := t.transform(slices.Collect(everyOther(l, 0)))
	odd := t.transform(slices.Collect(everyOther(l, 1)))
	out := make([]Number, n)
	for k, w := range t.factors(n)[:n/2] {
		turned := Mul(w, odd[k])
		out[k], out[k+n/2] = Add(even[k], turned), Sub(even[k], turned)
	}
	return out
}

// each returns what a function makes of all elements.
func each(l []Number, f func(Number) Number) []Number {
	out := make([]Number, len(l))
	for i, x := range l {
		out[i] = f(x)
	}
	return out
}

// Transform returns the discrete Fourier transform.
func Transform(l []Number, inverse bool) ([]Number, api.Errno) {
	if !isSize(len(l)) {
		return nil, api.ErrSize
	}
	t := transformer{map[int][]Number{}}
	if !inverse {
		return t.transform(l), api.OK
	}
	n := float32(len(l))
	return each(t.transform(each(l, Conj)), func(x Number) Number {
		re, im := Conj(x).Parts()
		return Of(re/n, im/n)
	}), api.OK
}

// Spectrum returns the bits of the powers of the first half of a transform.
func Spectrum(l []uint32) ([]uint32, api.Errno) {
	if !isSize(len(l)) {
		return nil, api.ErrSize
	}
	points := make([]Number, len(l))
	for i, b := range l {
		points[i].Re = b
	}
	var out []uint32
	for _, x := range (transformer{map[int][]Number{}}).transform(points)[:len(l)/2+1] {
		a, b := x.Parts()
		out = append(out, bits(float32(a*a)+float32(b*b)))
	}
	return out, api.OK
}
