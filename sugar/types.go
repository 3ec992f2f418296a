package sugar

import (
	"strconv"

	"hackamore/api"
	"hackamore/syntax"
)

// typ rewrites a type, which may be missing.
func (w *work) typ(n api.Node) api.Node {
	if n.Kind == syntax.LambdaType {
		return w.lambdaType(n)
	}
	out := node(n.Kind, n.Text)
	for _, k := range n.Kids {
		out.Kids = append(out.Kids, w.typ(k))
	}
	return out
}

// lambdaType makes an interface of a type of functions.
func (w *work) lambdaType(n api.Node) api.Node {
	l := w.scope.bounds
	m := w.begin("interface", l)
	defer w.keep(m)
	result := w.typ(n.Kids[3])
	params := node(syntax.Params, "")
	for i, k := range n.Kids[4:] {
		params.Kids = append(params.Kids, node(syntax.Param, "_a"+strconv.Itoa(i+1), w.typ(k), nothing()))
	}
	apply := node(syntax.Method, "apply", word("fun"), word(applyCap(n.Kids[0].Text)), node(syntax.Bounds, ""), params, result, n.Kids[2], nothing())
	m.node.Kids = append(m.node.Kids, apply)
	return named(m.node.Text, n.Kids[0].Text, n.Kids[1].Text, arguments(l))
}

// applyCap returns the capability of the method of a function with a capability.
func applyCap(capability string) string {
	if capability == "val" {
		return "val"
	}
	return ""
}

// rewriteBounds rewrites bounds once for all places in which they stand.
func (w *work) rewriteBounds(b *bounds, n api.Node) {
	var kids []api.Node
	for _, k := range n.Kids {
		kids = append(kids, node(syntax.Bound, k.Text, w.typ(k.Kids[0])))
	}
	b.kids = kids
}
