package num

import (
	"math"
	"strings"

	"hackamore/api"
)

// reals are the operations of a type of floats.
type reals[F float32 | float64] struct {
	typ  int
	to   func(wide) F
	from func(F) wide
}

func (t reals[F]) operation(method string) (operation, bool) {
	base, partial := strings.CutSuffix(method, "_partial")
	if f := t.arithmetic()[base]; f != nil {
		return operation{1, func(x, y wide) (api.Value, bool) {
			z := f(t.to(x), t.to(y))
			return value(t.typ, t.from(z)), partial && !finite(float64(z))
		}}, true
	}
	if test := comparison(method); test != nil {
		return operation{1, func(x, y wide) (api.Value, bool) { return truth(test(t.compare(x, y))), false }}, true
	}
	if method == "min" || method == "max" {
		return operation{1, func(x, y wide) (api.Value, bool) { return value(t.typ, t.either(method, x, y)), false }}, true
	}
	if f := t.singles()[method]; f != nil {
		return operation{0, func(x, _ wide) (api.Value, bool) { return value(t.typ, f(x)), false }}, true
	}
	test := map[string]func(float64) bool{"finite": finite, "nan": math.IsNaN}[method]
	return operation{0, func(x, _ wide) (api.Value, bool) { return truth(test(float64(t.to(x)))), false }}, test != nil
}

func finite(x float64) bool { return !math.IsNaN(x) && !math.IsInf(x, 0) }

func (t reals[F]) arithmetic() map[string]func(x, y F) F {
	return map[string]func(x, y F) F{
		"add": func(x, y F) F { return x + y },
		"sub": func(x, y F) F { return x - y },
		"mul": func(x, y F) F { return x * y },
		"div": func(x, y F) F { return x / y },
		"rem": func(x, y F) F { return F(math.Mod(float64(x), float64(y))) },
	}
}

// compare returns -1, 0 or 1, or 2 if one of both is not a number.
func (t reals[F]) compare(x, y wide) int {
	a, b := t.to(x), t.to(y)
	switch {
	case a < b:
		return -1
	case a == b:
		return 0
	case a > b:
		return 1
	}
	return 2
}

// either returns one of both, as min and max do.
func (t reals[F]) either(method string, x, y wide) wide {
	test := comparison(map[string]string{"min": "le", "max": "ge"}[method])
	if test(t.compare(x, y)) || math.IsNaN(float64(t.to(y))) {
		return x
	}
	return y
}

// singles are methods without parameters. Signs are bits, which a not-a-number keeps.
func (t reals[F]) singles() map[string]func(x wide) wide {
	sign := uint64(1) << (infos[t.typ].bits - 1)
	signed := func(change func(uint64) uint64) func(wide) wide {
		return func(x wide) wide {
			if math.IsNaN(float64(t.to(x))) {
				return x
			}
			return wide{0, change(x.lo)}
		}
	}
	exactly := func(f func(float64) float64) func(wide) wide {
		return func(x wide) wide { return t.from(F(f(float64(t.to(x))))) }
	}
	return map[string]func(x wide) wide{
		"neg":   signed(func(b uint64) uint64 { return b ^ sign }),
		"abs":   signed(func(b uint64) uint64 { return b &^ sign }),
		"sqrt":  exactly(math.Sqrt),
		"floor": exactly(math.Floor),
		"ceil":  exactly(math.Ceil),
		"trunc": exactly(math.Trunc),
		"round": exactly(math.Round),
	}
}
