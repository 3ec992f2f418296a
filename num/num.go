// Package num is layer 15: integers of all sizes and two kinds of floats. See shared/doc/15-num.md.
package num

import (
	"strings"

	"hackamore/api"
)

// The number types, in their order.
const (
	tI8 = iota
	tI16
	tI32
	tI64
	tI128
	tISize
	tU8
	tU16
	tU32
	tU64
	tU128
	tUSize
	tF32
	tF64
	count
)

// info is what a number type is: integers with a sign, or without one, and floats.
type info struct {
	name   string
	bits   int
	signed bool
	float  bool
}

var infos = [count]info{
	tI8:    {name: "I8", bits: 8, signed: true},
	tI16:   {name: "I16", bits: 16, signed: true},
	tI32:   {name: "I32", bits: 32, signed: true},
	tI64:   {name: "I64", bits: 64, signed: true},
	tI128:  {name: "I128", bits: 128, signed: true},
	tISize: {name: "ISize", bits: 64, signed: true},
	tU8:    {name: "U8", bits: 8},
	tU16:   {name: "U16", bits: 16},
	tU32:   {name: "U32", bits: 32},
	tU64:   {name: "U64", bits: 64},
	tU128:  {name: "U128", bits: 128},
	tUSize: {name: "USize", bits: 64},
	tF32:   {name: "F32", bits: 32, signed: true, float: true},
	tF64:   {name: "F64", bits: 64, signed: true, float: true},
}

// maxText is the number of bytes of a text that Parse reads.
const maxText = 400

// Types returns the names of the number types.
func Types() []string {
	var l []string
	for _, t := range infos {
		l = append(l, t.name)
	}
	return l
}

// find returns the index of a number type, or -1.
func find(typ string) int {
	for i, t := range infos {
		if t.name == typ {
			return i
		}
	}
	return -1
}

// Kind returns the kind of values of a number type (api.ValNumber and its index).
func Kind(typ string) (int, api.Errno) {
	i := find(typ)
	if i < 0 {
		return 0, api.ErrNone
	}
	return api.ValNumber + i, api.OK
}

// Name returns the number type of a kind.
func Name(kind int) (string, api.Errno) {
	i := kind - api.ValNumber
	if kind < api.ValNumber || i >= count {
		return "", api.ErrNone
	}
	return infos[i].name, api.OK
}

// Of returns the integer of a type with given lower bits.
func Of(typ string, n uint64) (api.Value, api.Errno) {
	i := find(typ)
	if i < 0 || infos[i].float {
		return api.Value{}, api.ErrNone
	}
	return value(i, cut(wide{0, n}, infos[i].bits)), api.OK
}

// value returns the number of a type with given bits.
func value(typ int, bits wide) api.Value {
	return api.Value{Kind: api.ValNumber + typ, Hi: bits.hi, Lo: bits.lo}
}

func truth(b bool) api.Value {
	if b {
		return api.Value{Kind: api.ValBool, Lo: 1}
	}
	return api.Value{Kind: api.ValBool}
}

// Check returns the error of a value as a number.
func Check(v api.Value) api.Errno {
	if v.Name != "" || len(v.Kids) > 0 {
		return api.ErrForm
	}
	bits := wide{v.Hi, v.Lo}
	if v.Kind == api.ValBool {
		if v.Hi > 0 || v.Lo > 1 {
			return api.ErrForm
		}
		return api.OK
	}
	i := v.Kind - api.ValNumber
	if v.Kind < api.ValNumber || i >= count || cut(bits, infos[i].bits) != bits {
		return api.ErrForm
	}
	if i == tF32 && fromF32(toF32(bits)) != bits || i == tF64 && fromF64(toF64(bits)) != bits {
		return api.ErrForm
	}
	return api.OK
}

// Text returns the text of a number.
func Text(v api.Value) (string, api.Errno) {
	if e := Check(v); e != api.OK {
		return "", e
	}
	if v.Kind == api.ValBool {
		if v.Lo == 1 {
			return "true", api.OK
		}
		return "false", api.OK
	}
	i, bits := v.Kind-api.ValNumber, wide{v.Hi, v.Lo}
	switch i {
	case tF32:
		return floatText(float64(toF32(bits)), 32), api.OK
	case tF64:
		return floatText(toF64(bits), 64), api.OK
	}
	n := exactOf(bits, infos[i])
	if n.negative {
		return "-" + n.size.text(), api.OK
	}
	return n.size.text(), api.OK
}

// Parse returns the number of a type with a text.
func Parse(typ, s string) (api.Value, api.Errno) {
	i := find(typ)
	if i < 0 {
		return api.Value{}, api.ErrNone
	}
	if len(s) > maxText {
		return api.Value{}, api.ErrLarge
	}
	if infos[i].float {
		bits, ok := readFloat(s, infos[i].bits)
		if !ok {
			return api.Value{}, api.ErrForm
		}
		return value(i, bits), api.OK
	}
	digits, negative := strings.CutPrefix(s, "-")
	if digits == "" || strings.Trim(digits, "0123456789") != "" {
		return api.Value{}, api.ErrForm
	}
	n := readExact(digits, negative)
	if !n.fits(infos[i]) {
		return api.Value{}, api.ErrRange
	}
	return value(i, n.bits(infos[i])), api.OK
}
