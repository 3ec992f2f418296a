package syntax

import (
	"strings"

	"hackamore/api"
	"hackamore/token"
)

// maxText is the number of bytes that the text of a tree may have.
const maxText = 100000

// stop is what a reader panics with.
type stop struct{}

// reader reads the text of a tree from a place on.
type reader struct {
	text  string
	at    int
	kinds map[string]int
}

// Parse returns the tree with a text.
func Parse(s string) (n api.Node, e api.Errno) {
	if len(s) > maxText {
		return api.Node{}, api.ErrLarge
	}
	defer func() {
		x := recover()
		if x == nil {
			return
		}
		if _, ok := x.(stop); !ok {
			panic(x)
		}
		n, e = api.Node{}, api.ErrForm
	}()
	rules := newRules()
	r := &reader{text: s, kinds: map[string]int{}}
	for kind, shape := range rules.shapes {
		r.kinds[shape.name] = kind
	}
	n = r.node()
	if r.at < len(s) || !rules.whole(n) {
		return api.Node{}, api.ErrForm
	}
	if e := Check(n); e != api.OK {
		return api.Node{}, e
	}
	return n, api.OK
}

// take passes over a text if it stands there.
func (r *reader) take(s string) bool {
	if !strings.HasPrefix(r.text[r.at:], s) {
		return false
	}
	r.at += len(s)
	return true
}

func (r *reader) need(s string) {
	if !r.take(s) {
		panic(stop{})
	}
}

func (r *reader) node() api.Node {
	r.need("(")
	end := strings.IndexAny(r.text[r.at:], " )")
	if end < 0 {
		panic(stop{})
	}
	n := api.Node{Kind: r.kinds[r.text[r.at:r.at+end]]}
	r.at += end
	if strings.HasPrefix(r.text[r.at:], ` "`) {
		r.at++
		n.Text = r.literal()
	}
	for r.take(" ") {
		kid := r.node()
		n.Kids = append(n.Kids, kid)
	}
	r.need(")")
	return n
}

// literal reads a literal that is written just as token.Quote writes it, and is not that of the empty text.
func (r *reader) literal() string {
	start := r.at
	var out strings.Builder
	for r.at++; r.at < len(r.text) && r.text[r.at] != '"'; r.at++ {
		if r.text[r.at] == '\\' {
			out.WriteByte(r.escape())
		} else {
			out.WriteByte(r.text[r.at])
		}
	}
	r.need(`"`)
	quoted, e := token.Quote(out.String())
	if out.Len() == 0 || e != api.OK || quoted != r.text[start:r.at] {
		panic(stop{})
	}
	return out.String()
}

// escape reads an escape, up to its last byte. What is none need not be told: its text is written otherwise.
func (r *reader) escape() byte {
	r.at++
	if r.at >= len(r.text) {
		panic(stop{})
	}
	switch b := r.text[r.at]; b {
	case 'n':
		return '\n'
	case 't':
		return '\t'
	case 'r':
		return '\r'
	case '0':
		return 0
	case 'x':
		return r.hex()
	default:
		return b
	}
}

// hex reads the two digits of an escape, up to the last one.
func (r *reader) hex() byte {
	const digits = "0123456789ABCDEF"
	b := 0
	for range 2 {
		r.at++
		if r.at >= len(r.text) {
			panic(stop{})
		}
		b = b<<4 + strings.IndexByte(digits, r.text[r.at])&15
	}
	return byte(b)
}
