package ssa

import (
	"strconv"
	"strings"
	"unicode/utf8"

	"hackamore/api"
)

// mostText is the greatest length of a text of functions.
const mostText = 1000000

// Print returns the text of functions.
func Print(l []Func) (string, api.Errno) {
	if len(l) > mostFuncs {
		return "", api.ErrSize
	}
	for _, f := range l {
		if _, e := shape(f); e != api.OK {
			return "", e
		}
		if !isPrinted(f) {
			return "", api.ErrForm
		}
	}
	p := &printer{}
	for _, f := range l {
		p.function(f)
	}
	if p.full() {
		return "", api.ErrLarge
	}
	return p.out.String(), api.OK
}

// isPrinted reports whether the types and values of a function have texts.
func isPrinted(f Func) bool {
	ok := isPrintedType(f.Result)
	for _, t := range f.Params {
		ok = ok && isPrintedType(t)
	}
	for _, x := range f.Blocks {
		for _, i := range x.Ins {
			ok = ok && isPrintedType(i.Type) && isPrintedValue(i.Lit)
		}
		ok = ok && isPrintedType(x.End.Call.Type)
	}
	return ok
}

func isShort(n int) bool { return 0 <= n && n < 100 }

func isPrintedType(t api.Type) bool {
	left := 100
	var fits func(t api.Type, depth int) bool
	fits = func(t api.Type, depth int) bool {
		if left == 0 || depth == 0 || !isShort(t.Kind) || !isShort(t.Cap) || !isShort(t.Mark) || !isName(t.Name) {
			return false
		}
		left--
		for _, a := range t.Args {
			if !fits(a, depth-1) {
				return false
			}
		}
		return true
	}
	return fits(t, mostDeep)
}

func isPrintedValue(v api.Value) bool {
	for _, k := range v.Kids {
		if !isPrintedValue(k) {
			return false
		}
	}
	return isShort(v.Kind)
}

// printer writes the text of functions, until it is too long.
type printer struct{ out strings.Builder }

func (p *printer) full() bool { return p.out.Len() > mostText }

// line writes words.
func (p *printer) line(words ...string) {
	if !p.full() {
		p.out.WriteString(strings.Join(words, " ") + "\n")
	}
}

func (p *printer) function(f Func) {
	words := []string{"func", word(f.Name), typeWord(f.Result), flagWord(f.Partial)}
	for _, t := range f.Params {
		words = append(words, typeWord(t))
	}
	p.line(words...)
	for _, x := range f.Blocks {
		p.line("block")
		for _, i := range x.Ins {
			if p.full() {
				return
			}
			p.line(insWords(i)...)
		}
		words := []string{endings[x.End.Kind].name, numbersWord(x.End.Args), numbersWord(x.End.To)}
		if x.End.Kind == Try {
			words = append(words, insWords(x.End.Call)...)
		}
		p.line(words...)
	}
}

func insWords(i Ins) []string {
	return []string{
		operations[i.Op].name, strconv.Itoa(i.Result), typeWord(i.Type), numbersWord(i.Args),
		word(i.Text), word(i.Name), valueWord(i.Lit), strconv.Itoa(i.N), flagWord(i.Flag),
	}
}

func flagWord(is bool) string {
	if is {
		return "1"
	}
	return "0"
}

func numbersWord(l []int) string {
	if len(l) == 0 {
		return "-"
	}
	parts := make([]string, len(l))
	for k, n := range l {
		parts[k] = strconv.Itoa(n)
	}
	return strings.Join(parts, ",")
}

// isPlain reports whether a byte stands for itself in a word.
func isPlain(c byte) bool {
	return c == '.' || c == '_' || c < utf8.RuneSelf && (c >= 'a' && c <= 'z' || c >= 'A' && c <= 'Z' || c >= '0' && c <= '9')
}

const digits = "0123456789abcdef"

// word returns a text as a word.
func word(s string) string {
	out := []byte{'x'}
	for _, c := range []byte(s) {
		if isPlain(c) {
			out = append(out, c)
		} else {
			out = append(out, '~', digits[c>>4], digits[c&15])
		}
	}
	return string(out)
}

func typeWord(t api.Type) string {
	var out strings.Builder
	writeType(&out, t)
	return out.String()
}

func writeType(out *strings.Builder, t api.Type) {
	out.WriteString(strconv.Itoa(t.Kind) + ":" + word(t.Name) + ":" + strconv.Itoa(t.Cap) + ":" + strconv.Itoa(t.Mark))
	for k, a := range t.Args {
		out.WriteByte("(,"[min(k, 1)])
		writeType(out, a)
	}
	if len(t.Args) > 0 {
		out.WriteByte(')')
	}
}

func valueWord(v api.Value) string {
	var out strings.Builder
	writeValue(&out, v)
	return out.String()
}

// writeValue writes a value, unless there is too much already.
func writeValue(out *strings.Builder, v api.Value) {
	if out.Len() > mostText {
		return
	}
	out.WriteString(strconv.Itoa(v.Kind) + ":" + strconv.FormatUint(v.Lo, 10) + ":" + strconv.FormatUint(v.Hi, 10) + ":" + word(v.Name))
	for k, a := range v.Kids {
		out.WriteByte("(,"[min(k, 1)])
		writeValue(out, a)
	}
	if len(v.Kids) > 0 {
		out.WriteByte(')')
	}
}
