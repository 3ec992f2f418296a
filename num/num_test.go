package num

import (
	"fmt"
	"math"
	"math/big"
	"math/rand"
	"slices"
	"strconv"
	"strings"
	"testing"

	"hackamore/api"
)

// call calls a method that does not fail, and returns its result and whether it raised.
func call(t *testing.T, typ, method string, args ...api.Value) (api.Value, bool) {
	t.Helper()
	v, raised, e := Call(typ, method, args)
	if e != api.OK {
		t.Fatalf("%s %s of %v: error %d", typ, method, args, e)
	}
	return v, raised
}

func parse(t *testing.T, typ, s string) api.Value {
	t.Helper()
	v, e := Parse(typ, s)
	if e != api.OK {
		t.Fatalf("Parse of %s %q: error %d", typ, s, e)
	}
	return v
}

func text(v api.Value) string {
	s, e := Text(v)
	if e != api.OK {
		return fmt.Sprintf("error %d", e)
	}
	return s
}

func isFloatType(typ string) bool { return typ[0] == 'F' }

// whole returns the integer of a value.
func whole(v api.Value) *big.Int {
	n, _ := new(big.Int).SetString(text(v), 10)
	return n
}

// limits returns the least and the greatest integer of a type.
func limits(typ string) (*big.Int, *big.Int) {
	t := infos[find(typ)]
	one := big.NewInt(1)
	if !t.signed {
		return new(big.Int), new(big.Int).Sub(new(big.Int).Lsh(one, uint(t.bits)), one)
	}
	half := new(big.Int).Lsh(one, uint(t.bits-1))
	return new(big.Int).Neg(half), new(big.Int).Sub(half, one)
}

// wrapped returns the number of a type that differs from n by a multiple of 2^bits.
func wrapped(typ string, n *big.Int) *big.Int {
	least, most := limits(typ)
	m := new(big.Int).Mod(n, new(big.Int).Lsh(big.NewInt(1), uint(infos[find(typ)].bits)))
	if m.Cmp(most) > 0 {
		m.Add(m, new(big.Int).Lsh(least, 1))
	}
	return m
}

// samples returns numbers of a type: ends, small ones and random ones.
func samples(typ string, r *rand.Rand, count int) []api.Value {
	i := find(typ)
	var l []api.Value
	if isFloatType(typ) {
		for _, s := range strings.Fields("nan inf -inf 0.0 -0.0 1.0 -1.0 0.5 -0.5 1.5 2.5 -2.5 1e20 -3e-7 127.9 300.0 1e300 5e-324 1e38 3.4028235e38 340282366920938463463374607431768211456 1.4e-45 16777217.0 9007199254740993.0 0.1 1e15 1e16 123456789012345678") {
			v, _ := Parse(typ, s)
			l = append(l, v)
		}
		for range count {
			bits := wide{0, r.Uint64()}
			if typ == "F32" {
				bits = fromF32(math.Float32frombits(uint32(bits.lo)))
			} else {
				bits = fromF64(math.Float64frombits(bits.lo))
			}
			l = append(l, value(i, bits))
		}
		return l
	}
	least, most := limits(typ)
	for _, n := range []*big.Int{least, most, new(big.Int), big.NewInt(1), big.NewInt(2), big.NewInt(7), big.NewInt(100), new(big.Int).Add(least, big.NewInt(1))} {
		v, _ := Parse(typ, n.String())
		l = append(l, v)
	}
	for range count {
		bits := shiftDown(wide{r.Uint64(), r.Uint64()}, r.Intn(128), r.Intn(2) == 0)
		l = append(l, value(i, cut(bits, infos[i].bits)))
	}
	return l
}

// TestTypes is P15.1 for the lists of types and their kinds.
func TestTypes(t *testing.T) {
	want := strings.Fields("I8 I16 I32 I64 I128 ISize U8 U16 U32 U64 U128 USize F32 F64")
	if !slices.Equal(Types(), want) {
		t.Errorf("Types: %v", Types())
	}
	Types()[0] = ""
	for i, typ := range want {
		kind, e := Kind(typ)
		name, e2 := Name(10 + i)
		if kind != 10+i || e != api.OK || name != typ || e2 != api.OK {
			t.Errorf("%s: kind %d, name %s, errors %d, %d", typ, kind, name, e, e2)
		}
	}
	for _, typ := range []string{"", "Bool", "String", "u8", "F16"} {
		if kind, e := Kind(typ); kind != 0 || e != api.ErrNone {
			t.Errorf("Kind of %s: %d, error %d", typ, kind, e)
		}
		if v, e := Of(typ, 1); e != api.ErrNone || v.Kind != 0 {
			t.Errorf("Of %s: error %d", typ, e)
		}
		if _, e := Parse(typ, "1"); e != api.ErrNone {
			t.Errorf("Parse of %s: error %d", typ, e)
		}
	}
	for _, kind := range []int{0, 1, 9, 24, -1, math.MaxInt} {
		if name, e := Name(kind); name != "" || e != api.ErrNone {
			t.Errorf("Name of %d: %s, error %d", kind, name, e)
		}
	}
	for _, typ := range []string{"F32", "F64"} {
		if _, e := Of(typ, 1); e != api.ErrNone {
			t.Errorf("Of %s: error %d", typ, e)
		}
	}
	for typ, want := range map[string]uint64{"U8": 0xff, "I8": 0xff, "U16": 0xffff, "I32": 0xffffffff, "U64": math.MaxUint64, "I128": math.MaxUint64, "USize": math.MaxUint64} {
		if v, e := Of(typ, math.MaxUint64); e != api.OK || v.Lo != want || v.Hi != 0 {
			t.Errorf("Of %s: %v, error %d", typ, v, e)
		}
	}
}

// TestCheck is P15.1 for Check, and for Text of what is none.
func TestCheck(t *testing.T) {
	for _, v := range []api.Value{{}, {Kind: 9}, {Kind: 24}, {Kind: -5}, {Kind: 2, Lo: 1}, {Kind: 4, Name: "None"}, {Kind: 1, Lo: 2}, {Kind: 1, Hi: 1}, {Kind: 1, Name: "x"}, {Kind: 1, Kids: make([]api.Value, 1)},
		{Kind: 10, Lo: 256}, {Kind: 10, Hi: 1}, {Kind: 13, Hi: 1}, {Kind: 16, Name: "x"}, {Kind: 16, Kids: make([]api.Value, 1)}, {Kind: 22, Lo: 1 << 32}, {Kind: 22, Lo: 0x7fc00001}, {Kind: 22, Lo: 0xffc00000}, {Kind: 22, Lo: 0x7f800001},
		{Kind: 23, Lo: 0x7ff8000000000001}, {Kind: 23, Lo: 0xfff8000000000000}, {Kind: 23, Lo: 1, Hi: 1}} {
		if e := Check(v); e != api.ErrForm {
			t.Errorf("Check of %v: error %d", v, e)
		}
		if s, e := Text(v); e != api.ErrForm || s != "" {
			t.Errorf("Text of %v: %q, error %d", v, s, e)
		}
	}
	for _, v := range []api.Value{{Kind: 1}, {Kind: 1, Lo: 1, Kids: []api.Value{}}, {Kind: 10, Lo: 255}, {Kind: 14, Lo: 1, Hi: math.MaxUint64}, {Kind: 22, Lo: 0x7fc00000}, {Kind: 22, Lo: 0xff800000}, {Kind: 23, Lo: 0x7ff8000000000000}, {Kind: 23, Lo: 1 << 63}} {
		if e := Check(v); e != api.OK {
			t.Errorf("Check of %v: error %d", v, e)
		}
	}
	if text(truth(true)) != "true" || text(truth(false)) != "false" {
		t.Error("the texts of Bools")
	}
}

// TestMethods is P15.1 for the lists of methods, each of which Call has, with its parameters.
func TestMethods(t *testing.T) {
	for _, typ := range append(Types(), "Bool") {
		l, e := Methods(typ)
		if e != api.OK {
			t.Fatalf("%s: error %d", typ, e)
		}
		var names []string
		for _, m := range l {
			names = append(names, m.Name)
			v := samples("U8", rand.New(rand.NewSource(1)), 0)[3]
			if typ != "Bool" {
				v = parse(t, typ, "1")
			} else {
				v = truth(true)
			}
			args := []api.Value{v}
			for _, p := range m.Params {
				if p != typ {
					t.Errorf("%s %s has the parameter %s", typ, m.Name, p)
				}
				args = append(args, v)
			}
			got, raised, e := Call(typ, m.Name, args)
			if m.Name == "string" {
				if e != api.ErrNone || m.Result != "String" {
					t.Errorf("%s string: error %d, result %s", typ, e, m.Result)
				}
				continue
			}
			result := "Bool"
			if got.Kind != api.ValBool {
				result, _ = Name(got.Kind)
			}
			if e != api.OK || raised || Check(got) != api.OK || m.Result != result || m.Partial != strings.HasSuffix(m.Name, "_partial") {
				t.Errorf("%s %s: %v, %v, error %d; %v", typ, m.Name, got, raised, e, m)
			}
			if _, _, e := Call(typ, m.Name, append(args, v)); e != api.ErrSize {
				t.Errorf("%s %s with more arguments: error %d", typ, m.Name, e)
			}
			if _, _, e := Call(typ, m.Name, nil); e != api.ErrSize {
				t.Errorf("%s %s without arguments: error %d", typ, m.Name, e)
			}
			for i := range args {
				wrong := slices.Clone(args)
				for _, w := range []api.Value{{Kind: 4}, {Kind: v.Kind + 1, Lo: v.Lo}, {Kind: v.Kind, Lo: v.Lo, Name: "x"}} {
					wrong[i] = w
					if got, raised, e := Call(typ, m.Name, wrong); e != api.ErrType || raised || got.Kind != 0 {
						t.Errorf("%s %s with a wrong argument: error %d", typ, m.Name, e)
					}
				}
			}
		}
		want := "add sub mul div rem add_partial sub_partial mul_partial div_partial rem_partial neg eq ne lt le gt ge min max abs "
		switch {
		case typ == "Bool":
			want = "eq ne op_and op_or op_xor op_not string"
		case isFloatType(typ):
			want += "sqrt floor ceil trunc round finite nan i8 i16 i32 i64 i128 isize u8 u16 u32 u64 u128 usize f32 f64 string"
		default:
			want += "op_and op_or op_xor op_not shl shr popcount clz ctz i8 i16 i32 i64 i128 isize u8 u16 u32 u64 u128 usize f32 f64 string"
		}
		if strings.Join(names, " ") != want {
			t.Errorf("%s has %v", typ, names)
		}
	}
	if l, e := Methods("String"); e != api.ErrNone || len(l) > 0 {
		t.Errorf("Methods of String: error %d", e)
	}
	for _, x := range [][2]string{{"U8", "sqrt"}, {"F64", "shl"}, {"F32", "op_and"}, {"Bool", "add"}, {"U8", ""}, {"U8", "eq_partial"}, {"U8", "_partial"}, {"U8", "neg_partial"}, {"F64", "min_partial"}, {"X", "add"}, {"", ""}, {"Bool", "string"}, {"I8", "string"}, {"Bool", "u8"}} {
		if _, _, e := Call(x[0], x[1], []api.Value{{Kind: 99}}); e != api.ErrNone {
			t.Errorf("%s %s: error %d", x[0], x[1], e)
		}
	}
}

// TestBools is P15.1 for Bool.
func TestBools(t *testing.T) {
	for i := range 4 {
		x, y := i&1 > 0, i&2 > 0
		for method, want := range map[string]bool{"eq": x == y, "ne": x != y, "op_and": x && y, "op_or": x || y, "op_xor": x != y} {
			if v, _ := call(t, "Bool", method, truth(x), truth(y)); v.Lo == 1 != want {
				t.Errorf("%v %s %v: %v", x, method, y, v)
			}
		}
		if v, _ := call(t, "Bool", "op_not", truth(x)); v.Lo == 1 == x {
			t.Errorf("op_not %v: %v", x, v)
		}
	}
}

// bigger computes integer methods with numbers of any size; ok is false where the result is none.
func bigger(method string, x, y *big.Int) (n *big.Int, ok bool) {
	n = new(big.Int)
	switch method {
	case "add":
		return n.Add(x, y), true
	case "sub":
		return n.Sub(x, y), true
	case "mul":
		return n.Mul(x, y), true
	case "div":
		if y.Sign() == 0 {
			return n, false
		}
		return n.Quo(x, y), true
	}
	if y.Sign() == 0 {
		return n, false
	}
	return n.Rem(x, y), true
}

// TestIntegers is P15.1 and P15.3 for arithmetic and comparisons, against numbers of any size.
func TestIntegers(t *testing.T) {
	r := rand.New(rand.NewSource(1))
	for _, typ := range Types()[:12] {
		least, most := limits(typ)
		l := samples(typ, r, 25)
		for _, a := range l {
			for _, b := range l {
				x, y := whole(a), whole(b)
				for _, method := range strings.Fields(arithmetic) {
					want, ok := bigger(method, x, y)
					v, _ := call(t, typ, method, a, b)
					if whole(v).Cmp(wrapped(typ, want)) != 0 {
						t.Fatalf("%s: %s %s %s is %s", typ, x, method, y, text(v))
					}
					fits := ok && want.Cmp(least) >= 0 && want.Cmp(most) <= 0
					if method == "rem" && x.Cmp(least) == 0 && y.Cmp(big.NewInt(-1)) == 0 {
						fits = false
					}
					p, raised := call(t, typ, method+"_partial", a, b)
					if raised == fits || fits && !alike(p, v) || raised && !alike(p, api.Value{}) {
						t.Fatalf("%s: %s %s_partial %s is %s, raised %v", typ, x, method, y, text(p), raised)
					}
				}
				c := x.Cmp(y)
				for method, want := range map[string]bool{"eq": c == 0, "ne": c != 0, "lt": c < 0, "le": c <= 0, "gt": c > 0, "ge": c >= 0} {
					if v, _ := call(t, typ, method, a, b); v.Lo == 1 != want {
						t.Fatalf("%s: %s %s %s is %s", typ, x, method, y, text(v))
					}
				}
				low, _ := call(t, typ, "min", a, b)
				high, _ := call(t, typ, "max", a, b)
				if c <= 0 && (!alike(low, a) || !alike(high, b)) || c >= 0 && (!alike(low, b) || !alike(high, a)) {
					t.Fatalf("%s: min and max of %s and %s are %s and %s", typ, x, y, text(low), text(high))
				}
			}
		}
	}
}

func alike(a, b api.Value) bool {
	return a.Kind == b.Kind && a.Lo == b.Lo && a.Hi == b.Hi && a.Name == b.Name && len(a.Kids)+len(b.Kids) == 0
}

// TestBits is P15.1 and P15.2 for what is done bit by bit, against numbers of any size.
func TestBits(t *testing.T) {
	r := rand.New(rand.NewSource(2))
	for _, typ := range Types()[:12] {
		bits := infos[find(typ)].bits
		mask := new(big.Int).Sub(new(big.Int).Lsh(big.NewInt(1), uint(bits)), big.NewInt(1))
		l := samples(typ, r, 30)
		for i := range 2*bits + 2 {
			v, e := Of(typ, uint64(i))
			if e == api.OK && i < 128 {
				l = append(l, v)
			}
		}
		for _, a := range l {
			x := new(big.Int).And(whole(a), mask)
			check := func(method string, want *big.Int, args ...api.Value) {
				t.Helper()
				v, raised := call(t, typ, method, args...)
				if raised || whole(v).Cmp(wrapped(typ, want)) != 0 {
					t.Fatalf("%s: %s of %s %s is %s, not %s", typ, method, text(args[0]), text(args[len(args)-1]), text(v), want)
				}
			}
			check("op_not", new(big.Int).Not(x), a)
			check("neg", new(big.Int).Neg(x), a)
			check("abs", new(big.Int).Abs(whole(a)), a)
			ones := strings.Count(fmt.Sprintf("%b", x), "1")
			check("popcount", big.NewInt(int64(ones)), a)
			check("clz", big.NewInt(int64(bits-x.BitLen())), a)
			zeros := int64(bits)
			if x.Sign() != 0 {
				zeros = int64(x.TrailingZeroBits())
			}
			check("ctz", big.NewInt(zeros), a)
			for _, b := range l {
				y := new(big.Int).And(whole(b), mask)
				check("op_and", new(big.Int).And(x, y), a, b)
				check("op_or", new(big.Int).Or(x, y), a, b)
				check("op_xor", new(big.Int).Xor(x, y), a, b)
				up, down := new(big.Int), new(big.Int)
				if whole(a).Sign() < 0 {
					down = big.NewInt(-1)
				}
				if y.IsInt64() && y.Int64() < int64(bits) {
					up.Lsh(x, uint(y.Int64()))
					down = new(big.Int).Rsh(whole(a), uint(y.Int64()))
				}
				check("shl", up, a, b)
				check("shr", down, a, b)
				sum, _ := call(t, typ, "add", a, b)
				both, _ := call(t, typ, "op_and", a, b)
				other, _ := call(t, typ, "op_xor", a, b)
				twice, _ := call(t, typ, "add", both, both)
				if again, _ := call(t, typ, "add", other, twice); !alike(again, sum) {
					t.Fatalf("%s: add of %s and %s is not op_xor plus twice op_and", typ, text(a), text(b))
				}
			}
		}
	}
}

// TestRings is P15.2.
func TestRings(t *testing.T) {
	r := rand.New(rand.NewSource(3))
	for _, typ := range Types()[:12] {
		l := samples(typ, r, 60)
		do := func(method string, a, b api.Value) api.Value {
			v, _ := call(t, typ, method, a, b)
			return v
		}
		for range 300 {
			a, b, c := l[r.Intn(len(l))], l[r.Intn(len(l))], l[r.Intn(len(l))]
			for _, x := range [][2]api.Value{
				{do("add", a, b), do("add", b, a)}, {do("mul", a, b), do("mul", b, a)},
				{do("add", do("add", a, b), c), do("add", a, do("add", b, c))}, {do("mul", do("mul", a, b), c), do("mul", a, do("mul", b, c))},
				{do("mul", a, do("add", b, c)), do("add", do("mul", a, b), do("mul", a, c))}, {do("sub", do("add", a, b), b), a},
			} {
				if !alike(x[0], x[1]) {
					t.Fatalf("%s: %s, %s, %s: %s is not %s", typ, text(a), text(b), text(c), text(x[0]), text(x[1]))
				}
			}
			if !alike(c, l[2]) && whole(b).Sign() != 0 {
				if back := do("add", do("mul", do("div", a, b), b), do("rem", a, b)); !alike(back, a) {
					t.Fatalf("%s: %s by %s: %s", typ, text(a), text(b), text(back))
				}
			}
		}
	}
}

// TestFloats is P15.1 for floats, bit by bit.
func TestFloats(t *testing.T) {
	for _, x := range []struct{ typ, a, method, b, want string }{
		{"F64", "0.1", "add", "0.2", "0.30000000000000004"}, {"F32", "0.1", "add", "0.2", "0.3"}, {"F32", "16777216.0", "add", "1.0", "16777216.0"},
		{"F64", "1.0", "div", "0.0", "inf"}, {"F64", "-1.0", "div", "0.0", "-inf"}, {"F64", "0.0", "div", "0.0", "nan"}, {"F64", "inf", "sub", "inf", "nan"}, {"F32", "3e38", "mul", "10.0", "inf"},
		{"F64", "-7.5", "rem", "2.0", "-1.5"}, {"F64", "7.5", "rem", "-2.0", "1.5"}, {"F64", "-6.0", "rem", "2.0", "-0.0"}, {"F64", "1.0", "rem", "0.0", "nan"}, {"F64", "inf", "rem", "2.0", "nan"}, {"F64", "-2.5", "rem", "inf", "-2.5"}, {"F32", "1e30", "rem", "0.1", "0.049303807"},
		{"F64", "1.0", "div_partial", "0.0", "!"}, {"F64", "nan", "add_partial", "1.0", "!"}, {"F64", "1e308", "mul_partial", "10.0", "!"}, {"F64", "1.0", "rem_partial", "0.0", "!"}, {"F64", "1.0", "sub_partial", "3.0", "-2.0"}, {"F64", "1.0", "div_partial", "inf", "0.0"},
		{"F64", "nan", "eq", "nan", "false"}, {"F64", "nan", "ne", "nan", "true"}, {"F64", "nan", "lt", "1.0", "false"}, {"F64", "1.0", "le", "nan", "false"}, {"F64", "1.0", "gt", "nan", "false"}, {"F64", "nan", "ge", "nan", "false"}, {"F64", "0.0", "eq", "-0.0", "true"}, {"F32", "-inf", "lt", "inf", "true"}, {"F64", "2.0", "ge", "2.0", "true"}, {"F64", "-0.0", "lt", "0.0", "false"},
		{"F64", "nan", "min", "1.0", "1.0"}, {"F64", "1.0", "min", "nan", "1.0"}, {"F64", "nan", "max", "nan", "nan"}, {"F64", "-0.0", "min", "0.0", "-0.0"}, {"F64", "0.0", "min", "-0.0", "0.0"}, {"F64", "0.0", "max", "-0.0", "0.0"}, {"F64", "1.0", "max", "2.0", "2.0"}, {"F64", "nan", "max", "2.0", "2.0"}, {"F64", "3.0", "max", "2.0", "3.0"},
	} {
		v, raised := call(t, x.typ, x.method, parse(t, x.typ, x.a), parse(t, x.typ, x.b))
		got := text(v)
		if raised {
			got = "!"
		}
		if got != x.want {
			t.Errorf("%s: %s %s %s is %s, not %s", x.typ, x.a, x.method, x.b, got, x.want)
		}
	}
	for _, x := range []struct{ typ, a, method, want string }{
		{"F64", "0.0", "neg", "-0.0"}, {"F64", "-0.0", "neg", "0.0"}, {"F64", "nan", "neg", "nan"}, {"F32", "1.5", "neg", "-1.5"}, {"F64", "-0.0", "abs", "0.0"}, {"F32", "-inf", "abs", "inf"}, {"F64", "nan", "abs", "nan"},
		{"F64", "2.0", "sqrt", "1.4142135623730951"}, {"F32", "2.0", "sqrt", "1.4142135"}, {"F64", "-1.0", "sqrt", "nan"}, {"F64", "-0.0", "sqrt", "-0.0"},
		{"F64", "-2.5", "floor", "-3.0"}, {"F64", "-2.5", "ceil", "-2.0"}, {"F64", "-2.5", "trunc", "-2.0"}, {"F64", "-2.5", "round", "-3.0"}, {"F64", "2.5", "round", "3.0"}, {"F32", "0.49999997", "round", "0.0"}, {"F64", "-0.4", "round", "-0.0"}, {"F64", "-0.4", "ceil", "-0.0"}, {"F64", "inf", "floor", "inf"},
		{"F64", "1.0", "finite", "true"}, {"F64", "inf", "finite", "false"}, {"F64", "nan", "finite", "false"}, {"F32", "nan", "nan", "true"}, {"F32", "-inf", "nan", "false"},
		{"F64", "300.0", "i8", "127"}, {"F64", "-300.0", "i8", "-128"}, {"F64", "nan", "i64", "0"}, {"F64", "-0.9", "u8", "0"}, {"F64", "-5.0", "u128", "0"}, {"F64", "255.9", "u8", "255"}, {"F32", "inf", "u128", "340282366920938463463374607431768211455"}, {"F64", "1e300", "i128", "170141183460469231731687303715884105727"}, {"F64", "-inf", "i128", "-170141183460469231731687303715884105728"}, {"F64", "-1e20", "isize", "-9223372036854775808"},
		{"F64", "1e30", "u128", "1000000000000000019884624838656"}, {"F64", "16777217.0", "f32", "16777216.0"}, {"F64", "1e39", "f32", "inf"}, {"F64", "1e-50", "f32", "0.0"}, {"F32", "0.1", "f64", "0.10000000149011612"}, {"F64", "nan", "f32", "nan"}, {"F32", "nan", "f64", "nan"}, {"F64", "-1e-50", "f32", "-0.0"},
		{"U128", "340282366920938463463374607431768211455", "f32", "inf"}, {"U128", "340282366920938463463374607431768211455", "f64", "3.402823669209385e38"}, {"U64", "16777217", "f32", "16777216.0"}, {"I64", "-9007199254740993", "f64", "-9.007199254740992e15"}, {"I16", "-1", "u8", "255"}, {"I8", "-1", "u128", "340282366920938463463374607431768211455"}, {"I128", "-1", "isize", "-1"}, {"U32", "40", "clz", "26"}, {"I8", "-128", "abs", "-128"}, {"I8", "-128", "neg", "-128"},
	} {
		if v, raised := call(t, x.typ, x.method, parse(t, x.typ, x.a)); raised || text(v) != x.want {
			t.Errorf("%s: %s of %s is %s, not %s", x.typ, x.method, x.a, text(v), x.want)
		}
	}
}

// TestOrders is P15.4.
func TestOrders(t *testing.T) {
	r := rand.New(rand.NewSource(4))
	for _, typ := range Types() {
		l := samples(typ, r, 20)
		less := func(a, b api.Value) bool { v, _ := call(t, typ, "lt", a, b); return v.Lo == 1 }
		for _, a := range l {
			for _, b := range l {
				x, _ := strconv.ParseFloat(text(a), 64)
				y, _ := strconv.ParseFloat(text(b), 64)
				if isFloatType(typ) && less(a, b) != (x < y) || x < y && !less(a, b) || less(a, b) && less(b, a) {
					t.Fatalf("%s: %s and %s", typ, text(a), text(b))
				}
				for _, method := range []string{"min", "max"} {
					if v, _ := call(t, typ, method, a, b); !alike(v, a) && !alike(v, b) {
						t.Fatalf("%s: %s of %s and %s is %s", typ, method, text(a), text(b), text(v))
					}
				}
				for _, c := range l {
					if less(a, b) && less(b, c) && !less(a, c) {
						t.Fatalf("%s: %s, %s, %s", typ, text(a), text(b), text(c))
					}
				}
			}
		}
	}
}

// TestConversions is P15.5, and the conversions of P15.1 against numbers of any size.
func TestConversions(t *testing.T) {
	r := rand.New(rand.NewSource(5))
	for _, from := range Types() {
		for _, a := range samples(from, r, 60) {
			for _, to := range Types() {
				v, _ := call(t, from, strings.ToLower(to), a)
				if name, _ := Name(v.Kind); name != to || Check(v) != api.OK {
					t.Fatalf("%s of %s %s: %v", to, from, text(a), v)
				}
				s, w := infos[find(from)], infos[find(to)]
				wider := w.float == s.float && w.bits >= s.bits && (w.signed == s.signed || w.bits > s.bits) || from == to
				if back, _ := call(t, to, strings.ToLower(from), v); wider && !alike(back, a) {
					t.Fatalf("%s to %s and back: %s is %s", from, to, text(a), text(back))
				}
				checkConversion(t, from, to, a, v)
			}
		}
	}
}

func checkConversion(t *testing.T, from, to string, a, v api.Value) {
	t.Helper()
	exact := new(big.Float).SetPrec(2000)
	switch s := text(a); {
	case s == "nan" || s == "inf" || s == "-inf":
		return
	case from == "F32":
		exact.SetFloat64(float64(toF32(wide{0, a.Lo})))
	case from == "F64":
		exact.SetFloat64(toF64(wide{0, a.Lo}))
	default:
		exact.SetInt(whole(a))
	}
	want := ""
	switch {
	case to == "F32":
		f, _ := exact.Float32()
		want = floatText(float64(f), 32)
	case to == "F64":
		f, _ := exact.Float64()
		want = floatText(f, 64)
	case isFloatType(from):
		n, _ := exact.Int(nil)
		least, most := limits(to)
		if n.Cmp(least) < 0 {
			n = least
		} else if n.Cmp(most) > 0 {
			n = most
		}
		want = n.String()
	default:
		want = wrapped(to, whole(a)).String()
	}
	if text(v) != want {
		t.Fatalf("%s of %s %s is %s, not %s", to, from, text(a), text(v), want)
	}
}

// TestTexts is P15.6, and Text and Parse of P15.1.
func TestTexts(t *testing.T) {
	r := rand.New(rand.NewSource(6))
	for _, typ := range Types() {
		for _, a := range samples(typ, r, 300) {
			if v, e := Parse(typ, text(a)); e != api.OK || !alike(v, a) {
				t.Fatalf("%s: Parse of %s is %v, error %d", typ, text(a), v, e)
			}
		}
	}
	for s, want := range map[string]string{"1e20": "1.0e20", "0.001": "0.001", "0.0001": "0.0001", "0.00001": "1.0e-5", "120": "120.0", "1.5e-7": "1.5e-7", "999999999999999.9": "999999999999999.9", "1e14": "100000000000000.0", "1e15": "1.0e15", "123456789012345678": "1.2345678901234568e17", "0": "0.0", "-0": "-0.0", "-0.0e5": "-0.0", "00.5": "0.5", "1e400": "inf", "-1e400": "-inf", "5e-324": "5.0e-324", "1e-400": "0.0", "1e+2": "100.0", "1e-05": "1.0e-5", "nan": "nan", "-inf": "-inf", "1.7976931348623157e308": "1.7976931348623157e308", "9.5e-4": "0.00095"} {
		if got := text(parse(t, "F64", s)); got != want {
			t.Errorf("F64 %s: %s, not %s", s, got, want)
		}
	}
	if got := text(api.Value{Kind: 22, Lo: 0x3dcccccd}); got != "0.1" {
		t.Errorf("F32 3dcccccd: %s", got)
	}
	for _, s := range []string{"", "-", ".5", "5.", "+1", "1e", "1e+", "1.5e-", "e5", "NaN", "-nan", "+inf", "Inf", "infinity", "0x1", "1_0", " 1", "1 ", "--1", "1.5.2", "1E5", "1e5e5"} {
		if v, e := Parse("F64", s); e != api.ErrForm || v.Kind != 0 {
			t.Errorf("F64 %q: %v, error %d", s, v, e)
		}
	}
	for s, want := range map[string]api.Errno{"256": api.ErrRange, "-1": api.ErrRange, "255": api.OK, "-0": api.OK, "007": api.OK, "x": api.ErrForm, "": api.ErrForm, "-": api.ErrForm, "+1": api.ErrForm, "1.0": api.ErrForm, "--1": api.ErrForm, "1-": api.ErrForm, strings.Repeat("9", 400): api.ErrRange, strings.Repeat("0", 400): api.OK, strings.Repeat("0", 401): api.ErrLarge, strings.Repeat("x", 401): api.ErrLarge} {
		if _, e := Parse("U8", s); e != want {
			t.Errorf("U8 %q: error %d, want %d", s, e, want)
		}
	}
	if _, e := Parse("F32", "0."+strings.Repeat("1", 399)); e != api.ErrLarge {
		t.Errorf("a long float: error %d", e)
	}
	for typ, s := range map[string]string{"I128": "170141183460469231731687303715884105728", "U128": "340282366920938463463374607431768211456", "I64": "-9223372036854775809"} {
		if _, e := Parse(typ, s); e != api.ErrRange {
			t.Errorf("%s %s: error %d", typ, s, e)
		}
	}
}

// TestShortest is P15.1 for the digits of floats: the fewest ones, and of these the nearest ones.
func TestShortest(t *testing.T) {
	r := rand.New(rand.NewSource(7))
	for _, typ := range []string{"F32", "F64"} {
		l := samples(typ, r, 200)
		for i := range uint64(200) { // powers of two have a smaller gap below
			bits := 2 + i*5
			if typ == "F32" {
				bits = (1 + i) << 23
			} else {
				bits <<= 52
			}
			l = append(l, value(find(typ), wide{0, bits}), value(find(typ), wide{0, i + 1}))
		}
		for _, a := range l {
			checkShortest(t, typ, a)
		}
	}
}

func checkShortest(t *testing.T, typ string, a api.Value) {
	t.Helper()
	s := strings.TrimPrefix(text(a), "-")
	if s == "nan" || s == "inf" || s == "0.0" {
		return
	}
	x := math.Abs(toF64(wide{0, a.Lo}))
	if typ == "F32" {
		x = math.Abs(float64(toF32(wide{0, a.Lo})))
	}
	exact := new(big.Rat).SetFloat64(x)
	got, _ := new(big.Rat).SetString(s)
	best, count := (*big.Rat)(nil), 0
	for k := 1; best == nil; k++ {
		count = k
		best = nearestOf(typ, exact, x, k)
	}
	digits := strings.Trim(strings.ReplaceAll(strings.Split(s, "e")[0], ".", ""), "0")
	if len(digits) != count || got.Cmp(best) != 0 {
		t.Fatalf("%s %s: the shortest one has %d digits: %s", typ, s, count, best.FloatString(20))
	}
}

// nearestOf returns the number of k digits that is read as x and nearest to it, or nil.
func nearestOf(typ string, exact *big.Rat, x float64, k int) *big.Rat {
	_, power, _ := strings.Cut(strconv.FormatFloat(x, 'e', 20, 64), "e")
	exponent, _ := strconv.Atoi(power)
	exponent -= k - 1
	var best *big.Rat
	for e := exponent - 1; e <= exponent+1; e++ {
		unit, _ := new(big.Rat).SetString("1e" + strconv.Itoa(e))
		q := new(big.Rat).Quo(exact, unit)
		low := new(big.Int).Quo(q.Num(), q.Denom())
		for d := int64(-1); d <= 2; d++ {
			n := new(big.Int).Add(low, big.NewInt(d))
			if n.Sign() <= 0 || len(n.String()) > k {
				continue
			}
			c := new(big.Rat).Mul(new(big.Rat).SetInt(n), unit)
			v, e := Parse(typ, n.String()+"e"+strconv.Itoa(e))
			same := typ == "F64" && v.Lo == math.Float64bits(x) || typ == "F32" && v.Lo == uint64(math.Float32bits(float32(x)))
			if e != api.OK || !same {
				continue
			}
			if best == nil {
				best = c
				continue
			}
			mine, other := new(big.Rat).Sub(c, exact), new(big.Rat).Sub(best, exact)
			if cmp := mine.Abs(mine).Cmp(other.Abs(other)); cmp < 0 || cmp == 0 && n.Bit(0) == 0 {
				best = c
			}
		}
	}
	return best
}

func BenchmarkCall(b *testing.B) {
	x, _ := Of("U64", 5)
	for b.Loop() {
		Call("U64", "add", []api.Value{x, x})
	}
}
