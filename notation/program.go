package notation

import (
	"slices"
	"strings"

	"hackamore/api"
	"hackamore/cap"
)

// Program returns the program with a text, a line for each entity, field and method:
//
//	class ref main.C is main.T ref; main.I box
//	let f: U32 val
//	fun box m(x: main.C iso; y: U32 val): U32 val ? => (get.f this)
//
// The capability stands behind the word; what is missing is empty. It panics if there is none.
func Program(s string) []api.Entity {
	var p []api.Entity
	for line := range strings.Lines(s) {
		line = strings.TrimSpace(line)
		word, left, _ := strings.Cut(line, " ")
		if line == "" {
			continue
		}
		if k := slices.Index(strings.Fields("class actor primitive trait interface"), word); k >= 0 {
			p = append(p, entity(k+1, left))
			continue
		}
		if len(p) == 0 {
			panic("notation: no entity: " + line)
		}
		x := &p[len(p)-1]
		switch word {
		case "var", "let":
			name, typ, _ := strings.Cut(left, ": ")
			x.Fields = append(x.Fields, api.Field{Name: name, Let: word == "let", Type: Type(typ)})
		default:
			x.Methods = append(x.Methods, Method(line))
		}
	}
	return p
}

// entity returns the entity of a kind with a capability, a name, and what it provides.
func entity(kind int, s string) api.Entity {
	head, provides, _ := strings.Cut(s, " is ")
	word, name, _ := strings.Cut(head, " ")
	return api.Entity{Kind: kind, Name: name, Cap: capability(word), Provides: Types(provides)}
}

func capability(s string) int {
	c, e := cap.Parse(s)
	if e != api.OK {
		panic("notation: no capability: " + s)
	}
	return c
}

// Method returns the method with a text, as it stands in a program.
func Method(s string) api.Method {
	head, body, _ := strings.Cut(s, " => ")
	head, params, _ := strings.Cut(head, "(")
	end := closing(params)
	words := strings.Fields(head)
	kind := slices.Index(strings.Fields("new fun be"), words[0])
	if kind < 0 || len(words) != 3 {
		panic("notation: no method: " + s)
	}
	m := api.Method{Kind: kind + 1, Cap: capability(words[1]), Name: words[2]}
	for part := range strings.SplitSeq(params[:end], ";") {
		if name, typ, ok := strings.Cut(strings.TrimSpace(part), ": "); ok {
			m.Params = append(m.Params, api.Param{Name: name, Type: Type(typ)})
		}
	}
	result := params[end+1:]
	result, m.Partial = strings.CutSuffix(result, " ?")
	m.Result = Type(strings.TrimPrefix(result, ": "))
	if body != "" {
		m.Body = Expr(body)
	}
	return m
}

// closing returns the place of the bracket that closes what is open.
func closing(s string) int {
	open := 1
	for i, c := range []byte(s) {
		switch c {
		case '(':
			open++
		case ')':
			open--
		}
		if open == 0 {
			return i
		}
	}
	panic("notation: a bracket is missing: " + s)
}
