package format

import (
	"strings"

	"hackamore/api"
	"hackamore/syntax"
)

// branches returns an if behind its keyword, or an elseif, up to the end.
func (w writer) branches(n api.Node) string {
	head := w.expr(n.Kids[0], asSeq) + " then" + w.inner(n.Kids[1])
	if n.Kids[2].Kind == syntax.If {
		return w.lines(head, "elseif "+w.branches(n.Kids[2]))
	}
	return w.lines(head+w.part("else", n.Kids[2]), "end")
}

func (w writer) ifdef(n api.Node) string {
	head := "ifdef " + w.expr(n.Kids[0], asInfix) + " then" + w.inner(n.Kids[1])
	return w.lines(head+w.part("else", n.Kids[2]), "end")
}

func (w writer) while(n api.Node) string {
	head := "while " + w.expr(n.Kids[0], asSeq) + " do" + w.inner(n.Kids[1])
	return w.lines(head+w.part("else", n.Kids[2]), "end")
}

func (w writer) repeat(n api.Node) string {
	return w.lines("repeat"+w.inner(n.Kids[0]), "until "+w.expr(n.Kids[1], asSeq), "end")
}

func (w writer) forLoop(n api.Node) string {
	head := "for " + n.Text + ": " + w.typ(n.Kids[0]) + " in " + w.expr(n.Kids[1], asSeq) + " do" + w.inner(n.Kids[2])
	return w.lines(head+w.part("else", n.Kids[3]), "end")
}

func (w writer) with(n api.Node) string {
	head := "with " + n.Text + ": " + w.typ(n.Kids[0]) + " = " + w.expr(n.Kids[1], asInfix) + " do"
	return w.lines(head+w.inner(n.Kids[2]), "end")
}

func (w writer) match(n api.Node) string {
	parts := []string{"match " + w.expr(n.Kids[0], asSeq)}
	for _, k := range n.Kids[2:] {
		head := "| " + w.expr(k.Kids[0], asInfix) + w.behind(" if ", k.Kids[1], asInfix) + " =>"
		parts = append(parts, head+w.inner(k.Kids[2]))
	}
	return w.lines(w.lines(parts...)+w.part("else", n.Kids[1]), "end")
}

func (w writer) try(n api.Node) string {
	head := "try" + w.inner(n.Kids[0])
	return w.lines(head+w.part("else", n.Kids[1])+w.part("then", n.Kids[2]), "end")
}

func (w writer) object(n api.Node) string {
	head := "object" + spaced(n.Kids[0]) + w.typeBehind(" is ", n.Kids[1])
	return w.lines(head+w.members(n.Kids[2:]), "end")
}

// lambda puts a body on the line of its head if it fits there.
func (w writer) lambda(n api.Node) string {
	head := "{" + w.params(n.Kids[1])
	if captures := n.Kids[5:]; len(captures) > 0 {
		head += "(" + joined(captures, func(c api.Node) string {
			return c.Text + ": " + w.typ(c.Kids[0]) + " = " + w.expr(c.Kids[1], asInfix)
		}) + ")"
	}
	head += w.typeBehind(": ", n.Kids[2]) + spaced(n.Kids[3]) + " =>"
	body := w.deeper().body(n.Kids[4])
	tail := "}" + spaced(n.Kids[0])
	if n.Kids[4].Kind != syntax.Seq && !strings.Contains(body, "\n") {
		return head + " " + body + " " + tail
	}
	return w.lines(head+w.deeper().line()+body, tail)
}
