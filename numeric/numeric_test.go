package numeric_test

import (
	"fmt"
	"math"
	"slices"
	"testing"

	"hackamore/api"
	"hackamore/draw"
	"hackamore/numeric"
)

const nan = 0x7fc00000

// round returns the bits of the F32 nearest to an F64. Of two F32 the sum, product and quotient are rounded rightly by way of F64.
func round(f float64) uint32 {
	if f != f {
		return nan
	}
	return math.Float32bits(float32(f))
}

func wide(b uint32) float64 { return float64(math.Float32frombits(b)) }

// The operations of F32, each rounded by itself.
func plus(a, b uint32) uint32  { return round(wide(a) + wide(b)) }
func minus(a, b uint32) uint32 { return round(wide(a) - wide(b)) }
func times(a, b uint32) uint32 { return round(wide(a) * wide(b)) }
func by(a, b uint32) uint32    { return round(wide(a) / wide(b)) }

// plain returns the bits of a part as results have it.
func plain(b uint32) uint32 { return round(wide(b)) }

func add(x, y numeric.Number) numeric.Number {
	return numeric.Number{Re: plus(x.Re, y.Re), Im: plus(x.Im, y.Im)}
}

func sub(x, y numeric.Number) numeric.Number {
	return numeric.Number{Re: minus(x.Re, y.Re), Im: minus(x.Im, y.Im)}
}

func mul(x, y numeric.Number) numeric.Number {
	return numeric.Number{
		Re: minus(times(x.Re, y.Re), times(x.Im, y.Im)),
		Im: plus(times(x.Re, y.Im), times(x.Im, y.Re)),
	}
}

func div(x, y numeric.Number) numeric.Number {
	n := plus(times(y.Re, y.Re), times(y.Im, y.Im))
	return numeric.Number{
		Re: by(plus(times(x.Re, y.Re), times(x.Im, y.Im)), n),
		Im: by(minus(times(x.Im, y.Re), times(x.Re, y.Im)), n),
	}
}

func conj(x numeric.Number) numeric.Number {
	return numeric.Number{Re: plain(x.Re), Im: times(x.Im, math.Float32bits(-1))}
}

func abs(x numeric.Number) uint32 {
	a, b := wide(x.Re), wide(x.Im)
	return round(math.Sqrt(a*a + b*b))
}

// part draws the bits of an F32: small integers, fractions, any bits, and those at the ends.
func part(m *draw.Maker) uint32 {
	switch m.Below(8) {
	case 0, 1:
		return math.Float32bits(float32(m.Below(41) - 20))
	case 2, 3:
		return math.Float32bits(float32(m.Below(2000000)-1000000) / float32(1+m.Below(300)))
	case 4:
		return draw.One[uint32](m, 0, 1<<31, 1, 1<<31+1, 0x007fffff, 0x00800000, 0x7f7fffff, 0xff7fffff, 0x7f800000, 0xff800000)
	case 5:
		return draw.One[uint32](m, nan, 0x7f800001, 0xffc00000, 0xffffffff, 0x7fffffff)
	}
	return uint32(m.Below(1<<16))<<16 | uint32(m.Below(1<<16))
}

func number(m *draw.Maker) numeric.Number { return numeric.Number{Re: part(m), Im: part(m)} }

// of returns a number with integers as its parts.
func of(re, im int) numeric.Number { return numeric.Of(float32(re), float32(im)) }

// integer draws a number whose parts are integers up to n in absolute value.
func integer(m *draw.Maker, n int) numeric.Number { return of(m.Below(2*n+1)-n, m.Below(2*n+1)-n) }

func numbers(n int, one func() numeric.Number) []numeric.Number {
	var l []numeric.Number
	for range n {
		l = append(l, one())
	}
	return l
}

// value returns the parts of a number as integers.
func value(x numeric.Number) [2]int {
	re, im := x.Parts()
	return [2]int{int(re), int(im)}
}

func valuesOf(l []numeric.Number) [][2]int {
	var out [][2]int
	for _, x := range l {
		out = append(out, value(x))
	}
	return out
}

// TestExamples are the chapter's.
func TestExamples(t *testing.T) {
	if got := numeric.Mul(of(1, 2), of(3, -1)); got != of(5, 5) {
		t.Errorf("(1 + 2 i) (3 - i) is %v", got)
	}
	if got := numeric.Abs(of(3, 4)); got != math.Float32bits(5) {
		t.Errorf("Abs of 3 + 4 i is %x", got)
	}
	for _, c := range []struct{ l, want [][2]int }{
		{[][2]int{{1, 0}, {0, 0}, {0, 0}, {0, 0}}, [][2]int{{1, 0}, {1, 0}, {1, 0}, {1, 0}}},
		{[][2]int{{0, 0}, {1, 0}, {0, 0}, {0, 0}}, [][2]int{{1, 0}, {0, -1}, {-1, 0}, {0, 1}}},
	} {
		var l []numeric.Number
		for _, p := range c.l {
			l = append(l, of(p[0], p[1]))
		}
		got, e := numeric.Transform(l, false)
		if e != api.OK || !slices.Equal(valuesOf(got), c.want) {
			t.Errorf("Transform of %v is %v, error %d", c.l, valuesOf(got), e)
		}
	}
}

// TestParts is P16.1 for Of and Parts.
func TestParts(t *testing.T) {
	for _, b := range []uint32{0, 1 << 31, 1, 0x3f800000, 0x7f7fffff, 0x7f800000, 0xff800000, nan, 0x7f800001, 0xffc00000, 0xffffffff} {
		f, want := math.Float32frombits(b), plain(b)
		if got := numeric.Of(f, 1); got.Re != want || got.Im != math.Float32bits(1) {
			t.Errorf("Of(%x, 1) is %x", b, got)
		}
		if got := numeric.Of(2, f); got.Re != math.Float32bits(2) || got.Im != want {
			t.Errorf("Of(2, %x) is %x", b, got)
		}
		re, im := numeric.Number{Re: b, Im: math.Float32bits(7)}.Parts()
		if math.Float32bits(re) != want || im != 7 {
			t.Errorf("Parts of %x, 7 are %x, %v", b, math.Float32bits(re), im)
		}
		re, im = numeric.Number{Re: math.Float32bits(7), Im: b}.Parts()
		if re != 7 || math.Float32bits(im) != want {
			t.Errorf("Parts of 7, %x are %v, %x", b, re, math.Float32bits(im))
		}
	}
}

// TestOperations is P16.1 for all operations of one or two numbers: each step is rounded by itself, and a not-a-number has one form.
func TestOperations(t *testing.T) {
	m := draw.New(1)
	for range 200000 {
		x, y := number(m), number(m)
		for name, got := range map[string][2]numeric.Number{
			"Add":  {numeric.Add(x, y), add(x, y)},
			"Sub":  {numeric.Sub(x, y), sub(x, y)},
			"Mul":  {numeric.Mul(x, y), mul(x, y)},
			"Div":  {numeric.Div(x, y), div(x, y)},
			"Conj": {numeric.Conj(x), conj(x)},
			"Abs":  {{Re: numeric.Abs(x)}, {Re: abs(x)}},
		} {
			if got[0] != got[1] {
				t.Fatalf("%s of %x and %x is %x, not %x", name, x, y, got[0], got[1])
			}
		}
	}
}

// TestNotFused is P16.1 for sums of products that would be others with one rounding less, and for roots that need F64.
func TestNotFused(t *testing.T) {
	a := numeric.Of(1+1.0/4096, 1+1.0/4096)
	if got := numeric.Mul(a, a); got.Re != 0 {
		t.Errorf("the real part of a square is %x", got.Re)
	}
	b := numeric.Of(1+1.0/4096, 1)
	c := numeric.Of(1+1.0/4096, 1+1.0/2048)
	if re, _ := numeric.Mul(b, c).Parts(); re != 0 {
		t.Errorf("the real part of a product is %v", re)
	}
	if got := numeric.Abs(numeric.Of(3e38, 1e38)); math.Float32frombits(got) < 3e38 || got >= 0x7f800000 {
		t.Errorf("Abs of a great number is %x", got)
	}
	if got := numeric.Abs(numeric.Of(3e38, 3e38)); got != 0x7f800000 {
		t.Errorf("Abs of a number that is too great is %x", got)
	}
	if got := numeric.Abs(numeric.Of(1e-45, 0)); got != 1 {
		t.Errorf("Abs of the least number is %x", got)
	}
}

// TestPolynomial is P16.1 for Polynomial.
func TestPolynomial(t *testing.T) {
	if got := numeric.Polynomial(nil, of(3, 1)); got != (numeric.Number{}) {
		t.Errorf("the value of no polynomial is %v", got)
	}
	if got := numeric.Polynomial([]numeric.Number{{Re: 0x7f800001, Im: 1 << 31}}, of(3, 1)); got != (numeric.Number{Re: nan, Im: 1 << 31}) {
		t.Errorf("the value of a number is %x", got)
	}
	if got := numeric.Polynomial([]numeric.Number{of(1, 0), of(2, 0), of(3, 0)}, of(10, 0)); got != of(321, 0) {
		t.Errorf("1 + 2 x + 3 x x at 10 is %v", got)
	}
	m := draw.New(2)
	for range 20000 {
		l, x := numbers(1+m.Below(6), func() numeric.Number { return number(m) }), number(m)
		want := numeric.Number{Re: plain(l[len(l)-1].Re), Im: plain(l[len(l)-1].Im)}
		for _, c := range slices.Backward(l[:len(l)-1]) {
			want = add(c, mul(x, want))
		}
		if got := numeric.Polynomial(l, x); got != want {
			t.Fatalf("Polynomial(%x, %x) is %x, not %x", l, x, got, want)
		}
	}
	if got := numeric.Polynomial(make([]numeric.Number, 100000), of(1, 1)); got != (numeric.Number{}) {
		t.Errorf("the value of a long polynomial is %v", got)
	}
}

// TestProduct is P16.1 for Product.
func TestProduct(t *testing.T) {
	m := draw.New(3)
	for range 5000 {
		a := numbers(m.Below(6), func() numeric.Number { return number(m) })
		b := numbers(m.Below(6), func() numeric.Number { return number(m) })
		var want []numeric.Number
		if len(a) > 0 && len(b) > 0 {
			for k := range len(a) + len(b) - 1 {
				sum := numeric.Number{}
				for i := range a {
					if j := k - i; 0 <= j && j < len(b) {
						sum = add(sum, mul(a[i], b[j]))
					}
				}
				want = append(want, sum)
			}
		}
		if got, e := numeric.Product(a, b); e != api.OK || !slices.Equal(got, want) {
			t.Fatalf("Product(%x, %x) is %x, error %d, not %x", a, b, got, e, want)
		}
	}
	sizes := []int{0, 1, 63, 64, 65, 1000}
	for _, i := range sizes {
		for _, j := range sizes {
			got, e := numeric.Product(make([]numeric.Number, i), make([]numeric.Number, j))
			want, wantError := i+j-1, api.OK
			if i == 0 || j == 0 {
				want = 0
			}
			if i > 64 || j > 64 {
				want, wantError = 0, api.ErrSize
			}
			if len(got) != want || e != wantError {
				t.Errorf("a product of %d and %d elements has %d, error %d", i, j, len(got), e)
			}
		}
	}
}

// isSize reports whether a transform may have so many points.
func isSize(n int) bool { return slices.Contains([]int{1, 2, 4, 8, 16, 32, 64}, n) }

// TestTwiddles is P16.1 for Twiddles.
func TestTwiddles(t *testing.T) {
	for n := -2; n < 140; n++ {
		w, e := numeric.Twiddles(n)
		if !isSize(n) {
			if e != api.ErrSize || len(w) > 0 {
				t.Errorf("%d factors, error %d for %d", len(w), e, n)
			}
			continue
		}
		if e != api.OK || len(w) != n || w[0] != of(1, 0) {
			t.Fatalf("factors %v, error %d for %d", w, e, n)
		}
		for k := 2; k < n; k++ {
			if w[k] != mul(w[k-1], w[1]) {
				t.Errorf("the factor %d of %d is %x", k, n, w[k])
			}
		}
	}
	first := map[int]numeric.Number{
		2: {Re: 0xbf800000, Im: 1 << 31},
		4: {Re: 0, Im: 0xbf800000},
	}
	c := 0.0
	for n := 8; n <= 64; n *= 2 {
		first[n] = numeric.Number{Re: round(math.Sqrt((1 + c) / 2)), Im: round(-math.Sqrt((1 - c) / 2))}
		c = math.Sqrt((1 + c) / 2)
		if turn := 2 * math.Pi / float64(n); math.Abs(wide(first[n].Re)-math.Cos(turn)) > 1e-7 || math.Abs(wide(first[n].Im)+math.Sin(turn)) > 1e-7 {
			t.Fatalf("the factor of %d", n)
		}
	}
	for n, want := range first {
		if w, _ := numeric.Twiddles(n); w[1] != want {
			t.Errorf("the first factor of %d is %x, not %x", n, w[1], want)
		}
	}
}

// element returns one element of a transform, by its definition.
func element(l []numeric.Number, k int) numeric.Number {
	n := len(l)
	if n == 1 {
		return numeric.Number{Re: plain(l[0].Re), Im: plain(l[0].Im)}
	}
	var even, odd []numeric.Number
	for i, x := range l {
		if i%2 == 0 {
			even = append(even, x)
		} else {
			odd = append(odd, x)
		}
	}
	w, _ := numeric.Twiddles(n)
	i := k % (n / 2)
	turned := mul(w[i], element(odd, i))
	if k < n/2 {
		return add(element(even, i), turned)
	}
	return sub(element(even, i), turned)
}

// TestTransform is P16.1 for Transform.
func TestTransform(t *testing.T) {
	m := draw.New(4)
	for n := range 140 {
		l := numbers(n, func() numeric.Number { return number(m) })
		for _, inverse := range []bool{false, true} {
			kept := slices.Clone(l)
			got, e := numeric.Transform(l, inverse)
			if !slices.Equal(l, kept) {
				t.Fatalf("Transform of %d elements changes them", n)
			}
			if !isSize(n) {
				if e != api.ErrSize || len(got) > 0 {
					t.Errorf("Transform of %d elements has %d, error %d", n, len(got), e)
				}
				continue
			}
			if e != api.OK || len(got) != n || &got[0] == &l[0] {
				t.Fatalf("Transform of %d elements has %d, error %d", n, len(got), e)
			}
			if inverse {
				for i := range kept {
					kept[i] = conj(kept[i])
				}
			}
			for k, x := range got {
				want := element(kept, k)
				if inverse {
					want = conj(want)
					divisor := round(float64(n))
					want = numeric.Number{Re: by(want.Re, divisor), Im: by(want.Im, divisor)}
				}
				if x != want {
					t.Fatalf("the element %d of %d (%v) is %x, not %x", k, n, inverse, x, want)
				}
			}
		}
	}
}

// TestSpectrum is P16.1 for Spectrum.
func TestSpectrum(t *testing.T) {
	m := draw.New(5)
	for turn := range 20 {
		for n := range 70 {
			var l []uint32
			var points []numeric.Number
			for range n {
				l = append(l, part(m))
				points = append(points, numeric.Number{Re: l[len(l)-1]})
			}
			got, e := numeric.Spectrum(l)
			if !isSize(n) {
				if e != api.ErrSize || len(got) > 0 {
					t.Errorf("Spectrum of %d samples has %d, error %d", n, len(got), e)
				}
				continue
			}
			whole, _ := numeric.Transform(points, false)
			var want []uint32
			for _, x := range whole[:n/2+1] {
				want = append(want, plus(times(x.Re, x.Re), times(x.Im, x.Im)))
			}
			if e != api.OK || !slices.Equal(got, want) {
				t.Fatalf("%d: Spectrum of %x is %x, error %d, not %x", turn, l, got, e, want)
			}
		}
	}
}

// TestIntegers is P16.2: small integers are a commutative ring, and x times its conjugate is real.
func TestIntegers(t *testing.T) {
	m := draw.New(6)
	for range 20000 {
		x, y, z := integer(m, 1000), integer(m, 1000), integer(m, 1000)
		a, b := value(x), value(y)
		if got := value(numeric.Add(x, y)); got != [2]int{a[0] + b[0], a[1] + b[1]} {
			t.Fatalf("%v + %v is %v", a, b, got)
		}
		if got := value(numeric.Sub(x, y)); got != [2]int{a[0] - b[0], a[1] - b[1]} {
			t.Fatalf("%v - %v is %v", a, b, got)
		}
		if got := value(numeric.Mul(x, y)); got != [2]int{a[0]*b[0] - a[1]*b[1], a[0]*b[1] + a[1]*b[0]} {
			t.Fatalf("%v times %v is %v", a, b, got)
		}
		if numeric.Mul(x, y) != numeric.Mul(y, x) || numeric.Add(x, y) != numeric.Add(y, x) {
			t.Fatalf("%v and %v do not commute", a, b)
		}
		if value(numeric.Mul(x, numeric.Add(y, z))) != value(numeric.Add(numeric.Mul(x, y), numeric.Mul(x, z))) {
			t.Fatalf("%v, %v and %v are not distributive", a, b, value(z))
		}
		if got := value(numeric.Mul(x, numeric.Conj(x))); got != [2]int{a[0]*a[0] + a[1]*a[1], 0} {
			t.Fatalf("%v times its conjugate is %v", a, got)
		}
	}
}

// TestTransforms is P16.3.
func TestTransforms(t *testing.T) {
	m := draw.New(7)
	for range 3000 {
		n := draw.One(m, 1, 2, 4)
		a := numbers(n, func() numeric.Number { return integer(m, 1000) })
		b := numbers(n, func() numeric.Number { return integer(m, 1000) })
		whole, _ := numeric.Transform(a, false)
		if back, _ := numeric.Transform(whole, true); !slices.Equal(valuesOf(back), valuesOf(a)) {
			t.Fatalf("there and back of %v is %v", valuesOf(a), valuesOf(back))
		}
		other, _ := numeric.Transform(b, false)
		var sum, sums, turned []numeric.Number
		w, _ := numeric.Twiddles(n)
		for i := range a {
			sum = append(sum, numeric.Add(a[i], b[i]))
			sums = append(sums, numeric.Add(whole[i], other[i]))
			turned = append(turned, numeric.Mul(whole[i], w[i]))
		}
		if got, _ := numeric.Transform(sum, false); !slices.Equal(valuesOf(got), valuesOf(sums)) {
			t.Fatalf("the transform of a sum of %v and %v", valuesOf(a), valuesOf(b))
		}
		turn := append([]numeric.Number{a[n-1]}, a[:n-1]...)
		if got, _ := numeric.Transform(turn, false); !slices.Equal(valuesOf(got), valuesOf(turned)) {
			t.Fatalf("the transform of %v turned is %v, not %v", valuesOf(a), valuesOf(got), valuesOf(turned))
		}
	}
}

// TestNear is P16.3, as far as rounding lets it be, for longer lists: the transform is that of the formula, and the way back the list.
func TestNear(t *testing.T) {
	m := draw.New(8)
	for n := 8; n <= numeric.MaxPoints; n *= 2 {
		l := numbers(n, func() numeric.Number { return integer(m, 10) })
		whole, _ := numeric.Transform(l, false)
		back, _ := numeric.Transform(whole, true)
		for k := range n {
			var sum complex128
			for i, x := range l {
				angle := -2 * math.Pi * float64(i*k) / float64(n)
				sum += complex(wide(x.Re), wide(x.Im)) * complex(math.Cos(angle), math.Sin(angle))
			}
			if math.Abs(wide(whole[k].Re)-real(sum)) > 1e-3 || math.Abs(wide(whole[k].Im)-imag(sum)) > 1e-3 {
				t.Errorf("the element %d of %d is %s, not %s", k, n, text(whole[k]), fmt.Sprint(sum))
			}
			if math.Abs(wide(back[k].Re)-wide(l[k].Re)) > 1e-4 || math.Abs(wide(back[k].Im)-wide(l[k].Im)) > 1e-4 {
				t.Errorf("the element %d of %d comes back as %s", k, n, text(back[k]))
			}
		}
	}
}

func text(x numeric.Number) string {
	re, im := x.Parts()
	return fmt.Sprint(re, " ", im)
}

// TestPolynomials is P16.4.
func TestPolynomials(t *testing.T) {
	m := draw.New(9)
	for range 3000 {
		a := numbers(1+m.Below(3), func() numeric.Number { return integer(m, 9) })
		b := numbers(1+m.Below(3), func() numeric.Number { return integer(m, 9) })
		x := integer(m, 5)
		product, _ := numeric.Product(a, b)
		got := numeric.Polynomial(product, x)
		if want := numeric.Mul(numeric.Polynomial(a, x), numeric.Polynomial(b, x)); value(got) != value(want) {
			t.Fatalf("the value of the product of %v and %v at %v is %v, not %v", valuesOf(a), valuesOf(b), value(x), value(got), value(want))
		}
	}
}

// TestSpectra is P16.5.
func TestSpectra(t *testing.T) {
	m := draw.New(10)
	for range 3000 {
		var l []uint32
		for range draw.One(m, 1, 2, 4) {
			l = append(l, round(float64(m.Below(201)-100)))
		}
		a, _ := numeric.Spectrum(l)
		b, _ := numeric.Spectrum(append([]uint32{l[len(l)-1]}, l[:len(l)-1]...))
		if !slices.Equal(a, b) {
			t.Fatalf("the spectra of %x are %x and %x", l, a, b)
		}
	}
}
