package ssa

import (
	"iter"
	"math/bits"
	"strings"

	"hackamore/api"
)

// mostDeep is how deep types and values in texts may be.
const mostDeep = 20

// Parse returns the functions with a text, or the number of a line and its error.
func Parse(s string) ([]Func, int, api.Errno) {
	if len(s) > mostText {
		return nil, 0, api.ErrSize
	}
	p := &parser{}
	count := 0
	for line := range strings.Lines(s) {
		count++
		if !p.line(line) {
			return nil, count, ErrLine
		}
	}
	if !p.isWhole() {
		return nil, count + 1, ErrLine
	}
	if _, e := Print(p.list); e != api.OK {
		return nil, 0, e
	}
	return p.list, 0, api.OK
}

// parser reads functions line by line.
type parser struct {
	list []Func
	open bool // whether the last block has no end yet
}

// isWhole reports whether the last function has a block, and the last block an end.
func (p *parser) isWhole() bool {
	return !p.open && (len(p.list) == 0 || len(p.list[len(p.list)-1].Blocks) > 0)
}

// line reads a line, and reports whether it has the form. What it reads leaves by panic where it has not.
func (p *parser) line(s string) (ok bool) {
	defer func() {
		if r := recover(); r != nil {
			if _, is := r.(noForm); !is {
				panic(r)
			}
			ok = false
		}
	}()
	s, ended := strings.CutSuffix(s, "\n")
	if !ended {
		return false
	}
	words := strings.Split(s, " ")
	first, left := words[0], words[1:]
	switch {
	case first == "func" && p.isWhole():
		p.list = append(p.list, readFunc(left))
	case first == "block" && len(left) == 0 && len(p.list) > 0 && !p.open:
		f := &p.list[len(p.list)-1]
		f.Blocks = append(f.Blocks, Block{})
		p.open = true
	case p.open:
		f := &p.list[len(p.list)-1]
		p.inner(&f.Blocks[len(f.Blocks)-1], words)
	default:
		return false
	}
	return true
}

// noForm is what leaves a line that has not the form.
type noForm struct{}

// inner reads an instruction of a block, or its end.
func (p *parser) inner(x *Block, words []string) {
	kind := endOf(words[0])
	if kind == 0 {
		x.Ins = append(x.Ins, readIns(words))
		return
	}
	count := 3
	if kind == Try {
		count += insCount
	}
	if len(words) != count {
		panic(noForm{})
	}
	x.End = End{Kind: kind, Args: readNumbers(words[1]), To: readNumbers(words[2])}
	if kind == Try {
		x.End.Call = readIns(words[3:])
	}
	p.open = false
}

// endOf returns the kind of end with a name, 0 for none.
func endOf(name string) int {
	for kind, o := range endings {
		if kind > 0 && o.name == name {
			return kind
		}
	}
	return 0
}

// opOf returns the operation with a name, 0 for none.
func opOf(name string) int {
	for op, o := range operations {
		if op > 0 && o.name == name {
			return op
		}
	}
	return 0
}

func readFunc(words []string) Func {
	if len(words) < 3 {
		panic(noForm{})
	}
	f := Func{Name: whole(words[0], (*reader).text), Result: whole(words[1], (*reader).typ), Partial: readFlag(words[2])}
	for _, w := range words[3:] {
		f.Params = append(f.Params, whole(w, (*reader).typ))
	}
	return f
}

// insCount is how many words an instruction has.
const insCount = 9

func readIns(words []string) Ins {
	op := opOf(words[0])
	if op == 0 || len(words) != insCount {
		panic(noForm{})
	}
	return Ins{
		Op: op, Result: whole(words[1], (*reader).number), Type: whole(words[2], (*reader).typ), Args: readNumbers(words[3]),
		Text: whole(words[4], (*reader).text), Name: whole(words[5], (*reader).text), Lit: whole(words[6], (*reader).value),
		N: whole(words[7], (*reader).number), Flag: readFlag(words[8]),
	}
}

func readFlag(w string) bool {
	if w != "0" && w != "1" {
		panic(noForm{})
	}
	return w == "1"
}

// readNumbers reads numbers with commas between them.
func readNumbers(w string) []int {
	if w == "-" {
		return nil
	}
	var l []int
	for part := range strings.SplitSeq(w, ",") {
		l = append(l, whole(part, (*reader).number))
	}
	return l
}

// whole reads something that a whole word is.
func whole[T any](w string, read func(*reader) T) T {
	r := &reader{left: w}
	x := read(r)
	if r.left != "" {
		panic(noForm{})
	}
	return x
}

// reader reads from the beginning of a word.
type reader struct {
	left  string
	depth int
}

// take takes a byte that has to be ahead.
func (r *reader) take(c byte) {
	if r.left == "" || r.left[0] != c {
		panic(noForm{})
	}
	r.left = r.left[1:]
}

// next takes any byte.
func (r *reader) next() byte {
	if r.left == "" {
		panic(noForm{})
	}
	c := r.left[0]
	r.left = r.left[1:]
	return c
}

// number reads a number from 0 to 10^9.
func (r *reader) number() int {
	n := r.great()
	if n > 1000000000 {
		panic(noForm{})
	}
	return int(n)
}

// great reads a number from 0 to 2^64 - 1.
func (r *reader) great() uint64 {
	n, count := uint64(0), 0
	for r.left != "" && r.left[0] >= '0' && r.left[0] <= '9' {
		high, low := bits.Mul64(n, 10)
		sum, carry := bits.Add64(low, uint64(r.next()-'0'), 0)
		if high+carry > 0 || count > 0 && n == 0 {
			panic(noForm{})
		}
		n = sum
		count++
	}
	if count == 0 {
		panic(noForm{})
	}
	return n
}

// text reads a text as a word.
func (r *reader) text() string {
	r.take('x')
	var out []byte
	for r.left != "" && (isPlain(r.left[0]) || r.left[0] == '~') {
		c := r.next()
		if c == '~' {
			high := strings.IndexByte(digits, r.next())
			low := strings.IndexByte(digits, r.next())
			c = byte(high<<4 | low)
			if high < 0 || low < 0 || isPlain(c) {
				panic(noForm{})
			}
		}
		out = append(out, c)
	}
	return string(out)
}

// parts hands on how often something may be read: as often as a list in brackets has parts, not at all without one.
func (r *reader) parts() iter.Seq[int] {
	return func(yield func(int) bool) {
		if r.depth++; r.depth > mostDeep {
			panic(noForm{})
		}
		if r.left != "" && r.left[0] == '(' {
			r.take('(')
			for k := 0; yield(k); k++ {
				if r.left == "" || r.left[0] != ',' {
					break
				}
				r.take(',')
			}
			r.take(')')
		}
		r.depth--
	}
}

func (r *reader) typ() api.Type {
	t := api.Type{Kind: r.number()}
	r.take(':')
	t.Name = r.text()
	r.take(':')
	t.Cap = r.number()
	r.take(':')
	t.Mark = r.number()
	for range r.parts() {
		t.Args = append(t.Args, r.typ())
	}
	return t
}

func (r *reader) value() api.Value {
	v := api.Value{Kind: r.number()}
	r.take(':')
	v.Lo = r.great()
	r.take(':')
	v.Hi = r.great()
	r.take(':')
	v.Name = r.text()
	for range r.parts() {
		v.Kids = append(v.Kids, r.value())
	}
	return v
}
