package format

import (
	"strings"

	"hackamore/api"
	"hackamore/syntax"
	"hackamore/token"
)

// context is what the grammar has where an expression stands, the widest one first.
type context int

const (
	asBody context = iota // a seq on lines of its own
	asSeq
	asAssign
	asInfix
	asTerm
	asAtom
)

// widest returns the narrowest context in which an expression stands without brackets.
func widest(n api.Node) context {
	switch n.Kind {
	case syntax.Seq:
		return asBody
	case syntax.Return, syntax.Break, syntax.Continue, syntax.Error:
		return asSeq
	case syntax.Assign:
		return asAssign
	case syntax.Binary, syntax.As:
		return asInfix
	case syntax.Unary, syntax.Consume:
		return asTerm
	}
	return asAtom
}

// expr returns the text of an expression where the grammar has a context.
func (w writer) expr(n api.Node, c context) string {
	if n.Kind == syntax.Seq {
		return "(" + w.stats(n.Kids) + ")"
	}
	s := w.rules[n.Kind](w, n)
	if c > widest(n) {
		return "(" + s + ")"
	}
	return s
}

// stats returns stats with `;` between them.
func (w writer) stats(l []api.Node) string {
	var parts []string
	for _, n := range l {
		parts = append(parts, w.expr(n, asSeq))
	}
	return strings.Join(parts, "; ")
}

// body returns an expression as a body, without the blanks of its first line.
func (w writer) body(n api.Node) string {
	if n.Kind != syntax.Seq {
		return w.expr(n, asSeq)
	}
	var parts []string
	for _, k := range n.Kids {
		parts = append(parts, w.expr(k, asSeq))
	}
	return w.lines(parts...)
}

// inner returns a body behind a line feed, with one more level.
func (w writer) inner(n api.Node) string {
	w = w.deeper()
	return w.line() + w.body(n)
}

// part returns the lines of a part that may be missing: a keyword and a body, with a line feed ahead.
func (w writer) part(keyword string, n api.Node) string {
	if n.Kind == syntax.Nothing {
		return ""
	}
	return w.line() + keyword + w.inner(n)
}

// receiver returns what stands ahead of a point or type arguments, which a Decl would take as a part of its type.
func (w writer) receiver(n api.Node) string {
	s := w.expr(n, asAtom)
	if n.Kind == syntax.Decl {
		return "(" + s + ")"
	}
	return s
}

// rules returns what writes expressions, by their kinds.
func rules() *[syntax.Last + 1]func(writer, api.Node) string {
	plain := func(w writer, n api.Node) string { return n.Text }
	fixed := func(s string) func(writer, api.Node) string {
		return func(writer, api.Node) string { return s }
	}
	return &[syntax.Last + 1]func(writer, api.Node) string{
		syntax.IntLit:    plain,
		syntax.FloatLit:  plain,
		syntax.BoolLit:   plain,
		syntax.Name:      plain,
		syntax.This:      fixed("this"),
		syntax.Error:     fixed("error"),
		syntax.Break:     fixed("break"),
		syntax.Continue:  fixed("continue"),
		syntax.StringLit: func(w writer, n api.Node) string { s, _ := token.Quote(n.Text); return s },
		syntax.Decl:      func(w writer, n api.Node) string { return n.Kids[0].Text + " " + n.Text + ": " + w.typ(n.Kids[1]) },
		syntax.Assign: func(w writer, n api.Node) string {
			return w.expr(n.Kids[0], asInfix) + " = " + w.expr(n.Kids[1], asAssign)
		},
		syntax.Dot:     func(w writer, n api.Node) string { return w.receiver(n.Kids[0]) + "." + n.Text },
		syntax.Tilde:   func(w writer, n api.Node) string { return w.expr(n.Kids[0], asAtom) + "~" + n.Text },
		syntax.Chain:   func(w writer, n api.Node) string { return w.expr(n.Kids[0], asAtom) + ".>" + n.Text },
		syntax.Qualify: func(w writer, n api.Node) string { return w.receiver(n.Kids[0]) + w.types(n.Kids[1:]) },
		syntax.Call:    writer.call,
		syntax.Tuple:   writer.tuple,
		syntax.Array:   writer.array,
		syntax.Unary:   writer.unary,
		syntax.Binary:  writer.binary,
		syntax.As:      func(w writer, n api.Node) string { return w.expr(n.Kids[0], asTerm) + " as " + w.typ(n.Kids[1]) },
		syntax.Consume: func(w writer, n api.Node) string { return "consume " + w.expr(n.Kids[0], asTerm) },
		syntax.Return:  func(w writer, n api.Node) string { return "return" + w.behind(" ", n.Kids[0], asInfix) },
		syntax.If:      func(w writer, n api.Node) string { return "if " + w.branches(n) },
		syntax.Ifdef:   writer.ifdef,
		syntax.While:   writer.while,
		syntax.Repeat:  writer.repeat,
		syntax.For:     writer.forLoop,
		syntax.With:    writer.with,
		syntax.Match:   writer.match,
		syntax.Try:     writer.try,
		syntax.Recover: func(w writer, n api.Node) string {
			return "recover" + spaced(n.Kids[0]) + w.inner(n.Kids[1]) + w.line() + "end"
		},
		syntax.Object: writer.object,
		syntax.Lambda: writer.lambda,
	}
}

func (w writer) call(n api.Node) string {
	out := w.expr(n.Kids[0], asAtom) + "("
	where := "where "
	for i, k := range n.Kids[2:] {
		named := k.Kind == syntax.Named
		if i > 0 && (!named || where == "") {
			out += ", "
		} else if i > 0 {
			out += " "
		}
		if named {
			out += where + k.Text + " = " + w.expr(k.Kids[0], asInfix)
			where = ""
		} else {
			out += w.expr(k, asAssign)
		}
	}
	return out + ")" + n.Kids[1].Text
}

func (w writer) tuple(n api.Node) string {
	return "(" + joined(n.Kids, func(k api.Node) string { return w.expr(k, asSeq) }) + ")"
}

func (w writer) array(n api.Node) string {
	out := "[as " + w.typ(n.Kids[0]) + ":"
	if len(n.Kids) > 1 {
		out += " " + w.stats(n.Kids[1:])
	}
	return out + "]"
}

func (w writer) unary(n api.Node) string {
	s := w.expr(n.Kids[0], asTerm)
	if n.Text == "not" {
		return "not " + s
	}
	return n.Text + s
}

func (w writer) binary(n api.Node) string {
	left, c := n.Kids[0], asTerm
	if left.Kind == syntax.Binary && left.Text == n.Text {
		c = asInfix
	}
	return w.expr(left, c) + " " + n.Text + " " + w.expr(n.Kids[1], asTerm)
}
