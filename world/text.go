package world

import (
	"strconv"
	"strings"

	"hackamore/api"
	"hackamore/num"
)

// writer writes texts of values. It numbers the objects that it meets.
type writer struct {
	*World
	numbers map[uint64]int
	met     []uint64 // the objects that were met, in order
	out     []byte
}

// tooDeep is told by panic where a value stands in too many others.
type tooDeep struct{}

// text returns the text of a right value. With an error no object is met by it.
func (t *writer) text(v api.Value) (s string, e api.Errno) {
	before := len(t.met)
	t.out = t.out[:0]
	defer func() {
		if r := recover(); r != nil {
			if _, ok := r.(tooDeep); !ok {
				panic(r)
			}
			s, e = "", api.ErrDepth
		}
		if e != api.OK {
			t.forget(before)
		}
	}()
	t.value(v, 0)
	if len(t.out) > api.MaxSource {
		return "", api.ErrLarge
	}
	return string(t.out), api.OK
}

// forget makes all objects but the first ones that were met ones that were not.
func (t *writer) forget(first int) {
	for _, n := range t.met[first:] {
		delete(t.numbers, n)
	}
	t.met = t.met[:first]
}

// put writes a text, unless there is too much already.
func (t *writer) put(s string) {
	if len(t.out) <= api.MaxSource {
		t.out = append(t.out, s...)
	}
}

// value writes a value that stands in a number of objects and tuples.
func (t *writer) value(v api.Value, depth int) {
	if depth > api.MaxTree {
		panic(tooDeep{})
	}
	switch v.Kind {
	case api.ValNone:
		t.put("none")
	case api.ValObject:
		t.object(v.Lo, depth)
	case api.ValActor:
		t.put("@" + strconv.Itoa(int(v.Lo)))
	case api.ValUnit:
		t.put(v.Name)
	case api.ValTuple:
		t.put("(")
		t.list(v.Kids, nil, depth)
		t.put(")")
	default:
		t.number(v)
	}
}

// number writes a number or a Bool.
func (t *writer) number(v api.Value) {
	s, _ := num.Text(v)
	if v.Kind != api.ValBool {
		t.put(t.Type(v) + " ")
	}
	t.put(s)
}

// list writes the values that stand in an object or a tuple; behind the names of fields, if there are any.
func (t *writer) list(l []api.Value, fields []api.Field, depth int) {
	for i, v := range l {
		if i > 0 {
			t.put(", ")
		}
		if i < len(fields) {
			t.put(fields[i].Name + "=")
		}
		t.value(v, depth+1)
	}
}

// object writes an object: all of it, if it is met first.
func (t *writer) object(n uint64, depth int) {
	number, ok := t.numbers[n]
	if ok {
		t.put("#" + strconv.Itoa(number))
		return
	}
	number = len(t.met)
	t.met = append(t.met, n)
	t.numbers[n] = number
	c := t.state.Cells[n]
	if c.Type == textType {
		t.put(quoted(c.Bytes) + "#" + strconv.Itoa(number))
		return
	}
	x, _ := t.entity(api.Class, c.Type)
	if isArray(c.Type) {
		x.Fields = nil
	}
	t.put(c.Type + "#" + strconv.Itoa(number) + "{")
	t.list(c.Fields, x.Fields, depth)
	t.put("}")
}

// quoted returns the text of a String's bytes.
func quoted(s string) string {
	return "\"" + strings.NewReplacer("\\", "\\\\", "\"", "\\\"", "\n", "\\n").Replace(s) + "\""
}

func (w *World) writer() *writer { return &writer{World: w, numbers: map[uint64]int{}} }

// Show returns the text of a value.
func (w *World) Show(v api.Value) (string, api.Errno) {
	if w == nil {
		return "", api.ErrArg
	}
	if !w.isValue(v) {
		return "", ErrBroken
	}
	return w.writer().text(v)
}

// Dump returns the text of a world, which ends with a line feed, also if it tells nothing.
func (w *World) Dump() string {
	if w == nil {
		return ""
	}
	t := w.writer()
	var lines []string
	for i, a := range w.state.Actors {
		if a.Type == "" {
			continue
		}
		x, _ := w.entity(api.Actor, a.Type)
		lines = append(lines, "actor "+strconv.Itoa(i)+" "+a.Type+"{"+t.texts(a.Fields, x.Fields)+"}")
		for _, m := range a.Mail {
			lines = append(lines, " "+m.Name+"("+t.texts(m.Args, nil)+") from "+strconv.Itoa(m.From))
		}
	}
	for _, s := range w.state.Output {
		lines = append(lines, "out "+quoted(s))
	}
	return strings.Join(lines, "\n") + "\n"
}

// texts returns the texts of values, one behind the other; behind the names of fields, if there are any.
func (t *writer) texts(l []api.Value, fields []api.Field) string {
	var parts []string
	for i, v := range l {
		s, e := t.text(v)
		if e != api.OK {
			s = "?"
		}
		if i < len(fields) {
			s = fields[i].Name + "=" + s
		}
		parts = append(parts, s)
	}
	return strings.Join(parts, ", ")
}
