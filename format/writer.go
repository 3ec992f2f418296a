package format

import (
	"strings"

	"hackamore/api"
	"hackamore/syntax"
	"hackamore/token"
)

// writer returns the texts of parts whose lines, but for the first one, have a level.
type writer struct {
	level int
	rules *[syntax.Last + 1]func(writer, api.Node) string
}

func newWriter() writer {
	return writer{rules: rules()}
}

// deeper returns a writer with one more level.
func (w writer) deeper() writer {
	w.level++
	return w
}

// line returns a line feed and the blanks of the next line.
func (w writer) line() string {
	return "\n" + strings.Repeat("  ", w.level)
}

// lines joins lines of the writer's level.
func (w writer) lines(l ...string) string {
	return strings.Join(l, w.line())
}

func (w writer) root(n api.Node) string {
	switch {
	case n.Kind == syntax.Module:
		return w.module(n)
	case syntax.IsType(n):
		return w.typ(n)
	}
	return w.body(n)
}

func (w writer) module(n api.Node) string {
	out := ""
	for _, k := range n.Kids {
		if k.Kind == syntax.Use {
			out += w.use(k) + "\n"
		} else {
			out += w.entity(k) + "\n"
		}
	}
	return out
}

func (w writer) use(n api.Node) string {
	quoted, _ := token.Quote(n.Text)
	return "use " + quoted + w.behind(" if ", n.Kids[0], asInfix)
}

// behind returns an expression behind a text, or nothing for a Nothing.
func (w writer) behind(s string, n api.Node, c context) string {
	if n.Kind == syntax.Nothing {
		return ""
	}
	return s + w.expr(n, c)
}

// typeBehind returns a type behind a text, or nothing for a Nothing.
func (w writer) typeBehind(s string, n api.Node) string {
	if n.Kind == syntax.Nothing {
		return ""
	}
	return s + w.typ(n)
}

// spaced returns a word behind a blank, or nothing for the empty one.
func spaced(n api.Node) string {
	if n.Text == "" {
		return ""
	}
	return " " + n.Text
}

func (w writer) entity(n api.Node) string {
	head := n.Kids[0].Text + spaced(n.Kids[1]) + " " + n.Text + w.bounds(n.Kids[2]) + w.typeBehind(" is ", n.Kids[3])
	return head + w.members(n.Kids[4:])
}

// members returns the lines of members, with a line feed ahead of each, and one more level.
func (w writer) members(l []api.Node) string {
	w = w.deeper()
	out := ""
	for _, n := range l {
		out += w.line()
		if n.Kind == syntax.Field {
			out += n.Kids[0].Text + " " + n.Text + ": " + w.typ(n.Kids[1]) + w.behind(" = ", n.Kids[2], asInfix)
		} else {
			out += w.method(n)
		}
	}
	return out
}

func (w writer) method(n api.Node) string {
	head := n.Kids[0].Text + spaced(n.Kids[1]) + " " + n.Text + w.bounds(n.Kids[2]) + w.params(n.Kids[3]) +
		w.typeBehind(": ", n.Kids[4]) + spaced(n.Kids[5])
	if n.Kids[6].Kind == syntax.Nothing {
		return head
	}
	return head + " =>" + w.inner(n.Kids[6])
}

func (w writer) bounds(n api.Node) string {
	if len(n.Kids) == 0 {
		return ""
	}
	return "[" + joined(n.Kids, func(b api.Node) string { return b.Text + w.typeBehind(": ", b.Kids[0]) }) + "]"
}

func (w writer) params(n api.Node) string {
	return "(" + joined(n.Kids, func(p api.Node) string { return p.Text + ": " + w.typ(p.Kids[0]) + w.behind(" = ", p.Kids[1], asInfix) }) + ")"
}

// joined returns texts of nodes with commas between them.
func joined(l []api.Node, text func(api.Node) string) string {
	var parts []string
	for _, n := range l {
		parts = append(parts, text(n))
	}
	return strings.Join(parts, ", ")
}

func (w writer) typ(n api.Node) string {
	switch n.Kind {
	case syntax.UnionType:
		return w.group(n, " | ")
	case syntax.BothType:
		return w.group(n, " & ")
	case syntax.TupleType:
		return w.group(n, ", ")
	case syntax.ArrowType:
		left := w.typ(n.Kids[0])
		if n.Kids[0].Kind == syntax.ArrowType {
			left = "(" + left + ")"
		}
		return left + "->" + w.typ(n.Kids[1])
	case syntax.ThisType:
		return "this"
	case syntax.LambdaType:
		return "{(" + joined(n.Kids[4:], w.typ) + ")" + w.typeBehind(": ", n.Kids[3]) + spaced(n.Kids[2]) + "}" + spaced(n.Kids[0]) + n.Kids[1].Text
	}
	return n.Text + w.types(n.Kids[2:]) + spaced(n.Kids[0]) + n.Kids[1].Text
}

func (w writer) group(n api.Node, separator string) string {
	var parts []string
	for _, k := range n.Kids {
		parts = append(parts, w.typ(k))
	}
	return "(" + strings.Join(parts, separator) + ")"
}

// types returns type arguments in their brackets, or nothing without any.
func (w writer) types(l []api.Node) string {
	if len(l) == 0 {
		return ""
	}
	return "[" + joined(l, w.typ) + "]"
}
