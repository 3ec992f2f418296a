package derive

import (
	"strconv"
	"strings"

	"hackamore/api"
	"hackamore/check"
	"hackamore/types"
)

// maxLine is the greatest length of the text of a type.
const maxLine = 20000

// noValue is the text of the zero Type.
const noValue = "-"

// Text returns the text of a certificate.
func Text(c check.Certificate) (s string, e api.Errno) {
	for _, b := range c.Bodies {
		if b.Entity < 0 || b.Method < 0 {
			return "", api.ErrRange
		}
	}
	for _, b := range c.Bodies {
		for _, t := range b.Types {
			if e = claimError(t); e != api.OK {
				return "", e
			}
		}
	}
	var out strings.Builder
	for _, b := range c.Bodies {
		if !writeBody(&out, b) {
			return "", api.ErrSize
		}
	}
	return out.String(), api.OK
}

// writeBody writes the lines of a body whose types have no errors; it stops, and returns false, where it becomes too large.
func writeBody(out *strings.Builder, b check.Body) bool {
	out.WriteString("body " + strconv.Itoa(b.Entity) + " " + strconv.Itoa(b.Method) + "\n")
	for _, t := range b.Types {
		line := noValue
		if !isZero(t) {
			line, _ = types.Text(t)
		}
		if len(line) > maxLine || out.Len() > MaxText {
			return false
		}
		out.WriteString(line + "\n")
	}
	return out.Len() <= MaxText
}

// Parse returns the certificate with a text.
func Parse(s string) (c check.Certificate, e api.Errno) {
	if len(s) > MaxText {
		return check.Certificate{}, api.ErrSize
	}
	for line := range strings.Lines(s) {
		line = strings.TrimSuffix(line, "\n")
		if b, ok := readHead(line); ok {
			c.Bodies = append(c.Bodies, b)
			continue
		}
		t, ok := readType(line)
		if !ok || len(c.Bodies) == 0 {
			return check.Certificate{}, api.ErrForm
		}
		last := &c.Bodies[len(c.Bodies)-1]
		last.Types = append(last.Types, t)
	}
	if text, e := Text(c); e != api.OK || text != s {
		return check.Certificate{}, api.ErrForm
	}
	return c, api.OK
}

// readHead reads the first line of a body, whose numbers may be written otherwise than Text writes them.
func readHead(line string) (check.Body, bool) {
	words := strings.Split(line, " ")
	if len(words) != 3 || words[0] != "body" {
		return check.Body{}, false
	}
	entity, e1 := strconv.Atoi(words[1])
	method, e2 := strconv.Atoi(words[2])
	return check.Body{Entity: entity, Method: method}, e1 == nil && e2 == nil
}

// readType reads the line of a type.
func readType(line string) (api.Type, bool) {
	if line == noValue {
		return api.Type{}, true
	}
	t, e := types.Parse(line)
	return t, e == api.OK
}
