package types

import (
	"strings"

	"hackamore/api"
	"hackamore/cap"
)

const (
	maxRead = 20000 // bytes of a text that is read
	maxOpen = 200   // open brackets around a type that is read
)

// Text returns the text of a type.
func Text(t api.Type) (string, api.Errno) {
	if e := Check(t); e != api.OK {
		return "", e
	}
	return text(t), api.OK
}

// text returns the text of a type, whatever its sizes are.
func text(t api.Type) string {
	var out strings.Builder
	write(&out, t)
	return out.String()
}

// betweens has what stands between the Args of types in round brackets.
var betweens = [...]string{api.TypeUnion: " | ", api.TypeBoth: " & ", api.TypeTuple: ", ", api.TypeArrow: " -> "}

func write(out *strings.Builder, t api.Type) {
	switch t.Kind {
	case api.TypeName:
		out.WriteString(nameText(t.Name))
		if len(t.Args) > 0 {
			writeList(out, "[", t.Args, ", ", "]")
		}
		out.WriteString(ending(t))
	case api.TypeParam:
		out.WriteString("$" + nameText(t.Name) + ending(t))
	case api.TypeSelf:
		out.WriteString("this" + ending(t))
	default:
		writeList(out, "(", t.Args, betweens[t.Kind], ")")
	}
}

func writeList(out *strings.Builder, open string, l []api.Type, between, end string) {
	out.WriteString(open)
	for i, t := range l {
		if i > 0 {
			out.WriteString(between)
		}
		write(out, t)
	}
	out.WriteString(end)
}

// ending returns the text of a capability and a mark.
func ending(t api.Type) string {
	end := ""
	if t.Cap != api.CapNone {
		end = " " + cap.Name(t.Cap)
	}
	switch t.Mark {
	case api.Ephemeral:
		end += "^"
	case api.Aliased:
		end += "!"
	}
	return end
}

func isDigit(b byte) bool { return '0' <= b && b <= '9' }

// isWord reports whether a byte may stand in a name without quotes.
func isWord(b byte) bool {
	return 'a' <= b && b <= 'z' || 'A' <= b && b <= 'Z' || isDigit(b) || b == '_' || b == '.' || b == '\''
}

func isPlainName(s string) bool {
	if s == "this" || s == "" || isDigit(s[0]) || s[0] == '\'' || s[0] == '.' {
		return false
	}
	for i := range len(s) {
		if !isWord(s[i]) {
			return false
		}
	}
	return true
}

func nameText(s string) string {
	if isPlainName(s) {
		return s
	}
	return `"` + strings.NewReplacer(`"`, `\"`, `\`, `\\`, "\n", `\n`).Replace(s) + `"`
}

// Parse returns the type with a text.
func Parse(s string) (api.Type, api.Errno) {
	if len(s) > maxRead {
		return api.Type{}, api.ErrSize
	}
	r := &reader{left: s}
	t := r.typ()
	if r.wrong || r.left != "" || text(t) != s {
		return api.Type{}, api.ErrForm
	}
	if e := Check(t); e != api.OK {
		return api.Type{}, e
	}
	return t, api.OK
}

// reader reads the text of a type. What it reads may be written otherwise: that is told afterwards.
type reader struct {
	left  string
	open  int
	wrong bool
}

// take passes over a text if it stands there.
func (r *reader) take(s string) bool {
	rest, ok := strings.CutPrefix(r.left, s)
	if ok {
		r.left = rest
	}
	return ok
}

// fail ends the reading.
func (r *reader) fail() { r.wrong, r.left = true, "" }

// typ reads a type by what it begins with.
func (r *reader) typ() api.Type {
	if r.open >= maxOpen {
		r.fail()
		return api.Type{}
	}
	read := r.named
	switch {
	case r.take("("):
		read = r.list
	case r.take("$"):
		read = r.param
	case strings.HasPrefix(r.left, "this") && (len(r.left) == len("this") || !isWord(r.left[len("this")])):
		read = r.self
	}
	return read()
}

// within reads types with something between them, from the one ahead on, up to a closing bracket.
func (r *reader) within(l []api.Type, between, end string) []api.Type {
	for !r.wrong && r.take(between) {
		t := r.typ()
		l = append(l, t)
	}
	if !r.take(end) {
		r.fail()
	}
	return l
}

func (r *reader) list() api.Type {
	r.open++
	t := api.Type{}
	first := r.typ()
	for kind, between := range betweens {
		if between != "" && strings.HasPrefix(r.left, between) {
			t.Kind = kind
		}
	}
	if t.Kind == 0 {
		r.fail()
		return t
	}
	t.Args = r.within([]api.Type{first}, betweens[t.Kind], ")")
	r.open--
	return t
}

func (r *reader) named() api.Type {
	t := api.Type{Kind: api.TypeName, Name: r.name()}
	if r.take("[") {
		r.open++
		first := r.typ()
		t.Args = r.within([]api.Type{first}, ", ", "]")
		r.open--
	}
	r.end(&t)
	return t
}

func (r *reader) param() api.Type {
	t := api.Type{Kind: api.TypeParam, Name: r.name()}
	r.end(&t)
	return t
}

func (r *reader) self() api.Type {
	r.take("this")
	t := api.Type{Kind: api.TypeSelf}
	r.end(&t)
	return t
}

// end reads a capability and a mark, where they are.
func (r *reader) end(t *api.Type) {
	if word, ok := strings.CutPrefix(r.left, " "); ok {
		n := 0
		for n < len(word) && (word[n] == '#' || 'a' <= word[n] && word[n] <= 'z') {
			n++
		}
		if c, e := cap.Parse(word[:n]); e == api.OK {
			t.Cap, r.left = c, word[n:]
		}
	}
	if r.take("^") {
		t.Mark = api.Ephemeral
	} else if r.take("!") {
		t.Mark = api.Aliased
	}
}

// name reads a name, with or without quotes.
func (r *reader) name() string {
	if r.take(`"`) {
		return r.quoted()
	}
	n := 0
	for n < len(r.left) && isWord(r.left[n]) {
		n++
	}
	name := r.left[:n]
	r.left = r.left[n:]
	if name == "" {
		r.fail()
	}
	return name
}

func (r *reader) quoted() string {
	var out strings.Builder
	for i := 0; i < len(r.left); i++ {
		b := r.left[i]
		if b == '"' {
			r.left = r.left[i+1:]
			return out.String()
		}
		if b == '\\' && i+1 < len(r.left) {
			i++
			b = r.left[i]
			if b == 'n' {
				b = '\n'
			}
		}
		out.WriteByte(b)
	}
	r.fail()
	return ""
}
