package token

import (
	"iter"
	"strconv"
	"strings"
	"unicode/utf8"

	"hackamore/api"
)

// cursor is a place in a text, which moves behind what is read; start is where the token or comment at hand begins.
type cursor struct {
	text      string
	start, at int
	keywords  map[string]bool
}

func (c *cursor) fail(code api.Errno) {
	panic(fault{c.start, code})
}

// peek returns the byte that stands n bytes behind the cursor, or 0 behind the end.
func (c *cursor) peek(n int) byte {
	if c.at+n < len(c.text) {
		return c.text[c.at+n]
	}
	return 0
}

func (c *cursor) has(prefix string) bool {
	return strings.HasPrefix(c.text[c.at:], prefix)
}

// skip passes over blanks and comments, and reports whether there was a line feed.
func (c *cursor) skip() bool {
	first := c.at
	for c.at < len(c.text) {
		switch {
		case strings.IndexByte(" \t\r\n", c.text[c.at]) >= 0:
			c.at++
		case c.has("//"):
			c.comment(c.lineEnd())
		case c.has("/*"):
			c.comment(c.commentEnd())
		default:
			return strings.Contains(c.text[first:c.at], "\n")
		}
	}
	return true
}

// comment passes over a comment up to its end, which is below 0 if there is none.
func (c *cursor) comment(end int) {
	c.start = c.at
	if end < 0 || !utf8.ValidString(c.text[c.at:end]) {
		c.fail(ErrComment)
	}
	c.at = end
}

func (c *cursor) lineEnd() int {
	if n := strings.IndexByte(c.text[c.at:], '\n'); n >= 0 {
		return c.at + n
	}
	return len(c.text)
}

// commentEnd returns the place behind the nested comment at the cursor, or -1.
func (c *cursor) commentEnd() int {
	depth := 0
	for i := c.at; i+1 < len(c.text); i++ {
		switch c.text[i : i+2] {
		case "/*":
			depth++
			i++
		case "*/":
			depth--
			i++
		}
		if depth == 0 {
			return i + 1
		}
	}
	return -1
}

// reader returns the closure that reads the token at the cursor.
func (c *cursor) reader() func() Token {
	c.start = c.at
	switch b := c.text[c.at]; {
	case isLetter(b) || b == '_':
		return func() Token { return c.word() }
	case isDigit(b):
		return c.closed(func() Token { return c.number() })
	case b == '\'':
		return c.closed(func() Token { return Token{Kind: Int, Text: c.character()} })
	case c.has(`"""`):
		return func() Token { return Token{Kind: String, Text: c.block()} }
	case b == '"':
		return func() Token { return Token{Kind: String, Text: c.line()} }
	}
	return func() Token { return c.symbol() }
}

// closed returns a reader of a number behind which no letter, digit or `_` may stand.
func (c *cursor) closed(read func() Token) func() Token {
	return func() Token {
		t := read()
		if isPart(c.peek(0)) {
			c.fail(ErrNumber)
		}
		return t
	}
}

func (c *cursor) word() Token {
	for isPart(c.peek(0)) {
		c.at++
	}
	for c.peek(0) == '\'' {
		c.at++
	}
	s := c.text[c.start:c.at]
	if c.keywords[s] {
		return Token{Kind: Keyword, Text: s}
	}
	return Token{Kind: Ident, Text: s}
}

func (c *cursor) symbol() Token {
	best := ""
	for _, s := range symbols {
		whole := !isLetter(s[len(s)-1]) || !isPart(c.peek(len(s)))
		if len(s) > len(best) && c.has(s) && whole {
			best = s
		}
	}
	if best == "" {
		c.fail(ErrChar)
	}
	c.at += len(best)
	return Token{Kind: Symbol, Text: best}
}

// digits hands on the digits of a base at the cursor, which may have `_` between two of them.
func (c *cursor) digits(base uint64) iter.Seq[uint64] {
	return func(yield func(uint64) bool) {
		for {
			d, ok := digit(c.peek(0), base)
			if !ok {
				return
			}
			c.at++
			if c.peek(0) == '_' {
				if _, ok := digit(c.peek(1), base); !ok {
					c.fail(ErrNumber)
				}
				c.at++
			}
			if !yield(d) {
				return
			}
		}
	}
}

// digit returns the value of a digit, and whether it is one of a base.
func digit(b byte, base uint64) (uint64, bool) {
	d := base
	switch {
	case isDigit(b):
		d = uint64(b - '0')
	case 'a' <= b && b <= 'f':
		d = uint64(b-'a') + 10
	case 'A' <= b && b <= 'F':
		d = uint64(b-'A') + 10
	}
	return d, d < base
}

// some passes over digits, and fails if there are none.
func (c *cursor) some(base uint64) (n wide, fits bool) {
	fits = true
	first := c.at
	for d := range c.digits(base) {
		ok := n.push(base, d)
		fits = fits && ok
	}
	if c.at == first {
		c.fail(ErrNumber)
	}
	return n, fits
}

func (c *cursor) number() Token {
	base := uint64(10)
	switch {
	case c.has("0x"):
		base = 16
	case c.has("0b"):
		base = 2
	}
	if base != 10 {
		c.at += 2
	}
	n, fits := c.some(base)
	if base == 10 && c.fraction() {
		s := strings.ReplaceAll(c.text[c.start:c.at], "_", "")
		return Token{Kind: Float, Text: strings.ReplaceAll(s, "E", "e")}
	}
	if !fits {
		c.fail(ErrNumber)
	}
	return Token{Kind: Int, Text: n.text()}
}

// fraction passes over what makes a Float of decimal digits, and reports whether there was any.
func (c *cursor) fraction() bool {
	float := false
	if c.peek(0) == '.' && isDigit(c.peek(1)) {
		c.at++
		c.some(10)
		float = true
	}
	if c.peek(0) != 'e' && c.peek(0) != 'E' {
		return float
	}
	c.at++
	if c.peek(0) == '+' || c.peek(0) == '-' {
		c.at++
	}
	c.some(10)
	return true
}

// block reads a string between `"""` and `"""`.
func (c *cursor) block() string {
	c.at += 3
	n := strings.Index(c.text[c.at:], `"""`)
	if n < 0 || !utf8.ValidString(c.text[c.at:c.at+n]) {
		c.fail(ErrString)
	}
	s := c.text[c.at : c.at+n]
	c.at += n + 3
	return s
}

// line reads a string between `"` and `"`.
func (c *cursor) line() string {
	var out strings.Builder
	c.at++
	for c.peek(0) != '"' {
		out.WriteRune(c.char())
	}
	c.at++
	return out.String()
}

// character reads a character between `'` and `'`, and returns its number.
func (c *cursor) character() string {
	c.at++
	if c.peek(0) == '\'' {
		c.fail(ErrString)
	}
	r := c.char()
	if c.peek(0) != '\'' {
		c.fail(ErrString)
	}
	c.at++
	return strconv.Itoa(int(r))
}

// char reads a character or an escape of a literal on one line.
func (c *cursor) char() rune {
	if c.has(`\`) {
		return c.escape()
	}
	r, size := utf8.DecodeRuneInString(c.text[c.at:])
	if r == '\n' || r == utf8.RuneError && size < 2 {
		c.fail(ErrString)
	}
	c.at += size
	return r
}

func (c *cursor) escape() rune {
	b := c.peek(1)
	c.at += 2
	switch b {
	case 'n':
		return '\n'
	case 't':
		return '\t'
	case 'r':
		return '\r'
	case '0':
		return 0
	case '\\', '"', '\'':
		return rune(b)
	case 'x':
		return c.hex(2, 127)
	case 'u':
		return c.hex(4, utf8.MaxRune)
	case 'U':
		return c.hex(6, utf8.MaxRune)
	}
	c.fail(ErrString)
	return 0
}

// hex reads the digits of an escape, whose character is at most most.
func (c *cursor) hex(count int, most rune) rune {
	r := rune(0)
	for range count {
		d, ok := digit(c.peek(0), 16)
		if !ok {
			c.fail(ErrString)
		}
		r = r<<4 + rune(d)
		c.at++
	}
	if r > most || !utf8.ValidRune(r) {
		c.fail(ErrString)
	}
	return r
}
