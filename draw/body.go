package draw

import "hackamore/api"

// Flow returns a body of at most a depth that has much of what flow is about: locals of a few names, fields of the receiver, loops
// and errors. What it has is well-formed; break and continue may stand anywhere.
func (m *Maker) Flow(depth int) api.Expr {
	if depth <= 1 || m.Below(7) == 0 {
		return m.flowLeaf()
	}
	kid := func() api.Expr { return m.Flow(depth - 1) }
	maybe := func() api.Expr {
		if m.Below(2) == 0 {
			return api.Expr{}
		}
		return kid()
	}
	of := func(op int, text string, kids ...api.Expr) api.Expr {
		return api.Expr{Op: op, Text: text, Kids: kids}
	}
	name := One(m, "a", "b", "p")
	switch m.Below(16) {
	case 0, 1, 2, 3:
		x := of(api.OpSeq, "")
		for range 1 + m.Below(3) {
			x.Kids = append(x.Kids, kid())
		}
		return x
	case 4, 5:
		return of(api.OpIf, "", kid(), kid(), maybe())
	case 6, 7:
		return of(api.OpWhile, "", kid(), kid(), maybe())
	case 8:
		x := of(api.OpMatch, "", kid())
		for range m.Below(3) {
			x.Kids = append(x.Kids, of(api.OpCase, One(m, "", "a", "c"), maybe(), kid()))
		}
		return x
	case 9, 10:
		return of(api.OpTry, "", kid(), maybe(), maybe())
	case 11:
		return of(One(m, api.OpVar, api.OpLet), name, kid())
	case 12:
		return of(api.OpAssign, name, kid())
	case 13:
		return of(api.OpCall, "f", kid(), kid())
	case 14:
		return of(api.OpSet, One(m, "x", "y", "z"), One(m, api.Expr{Op: api.OpThis}, kid()), kid())
	}
	return of(One(m, api.OpReturn, api.OpRecover), "", kid())
}

func (m *Maker) flowLeaf() api.Expr {
	op := One(m, api.OpLit, api.OpLit, api.OpLocal, api.OpLocal, api.OpConsume, api.OpThis, api.OpError, api.OpBreak, api.OpContinue, api.OpReturn, api.OpGet, api.OpVar, api.OpLet)
	x := api.Expr{Op: op}
	switch op {
	case api.OpLocal, api.OpConsume, api.OpVar, api.OpLet:
		x.Text = One(m, "a", "b", "p")
	case api.OpGet:
		x.Text, x.Kids = One(m, "x", "y", "z"), []api.Expr{{Op: api.OpThis}}
	}
	return x
}
