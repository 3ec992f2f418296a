package lower

import (
	"hackamore/api"
	"hackamore/exprs"
	"hackamore/num"
)

// isForm reports whether a body is as layer 18 asks for it.
func isForm(x api.Expr, looped bool) bool {
	if !exprs.IsShaped(x) {
		return false
	}
	switch x.Op {
	case api.OpLit:
		_, ok := literal(x)
		return ok
	case api.OpItem:
		if _, ok := exprs.Index(x.Text); !ok {
			return false
		}
	case api.OpBreak, api.OpContinue:
		return looped
	}
	for i, k := range x.Kids {
		if (k.Op == api.OpCase) != (x.Op == api.OpMatch && i > 0) {
			return false
		}
		if k.Op == 0 && mayBeNone(x.Op, i) {
			continue
		}
		if !isForm(k, looped || x.Op == api.OpWhile && i < 2) {
			return false
		}
	}
	return true
}

// mayBeNone reports whether a kid of an operation may be none.
func mayBeNone(op, kid int) bool {
	switch op {
	case api.OpIf, api.OpWhile:
		return kid == 2
	case api.OpTry:
		return kid > 0
	case api.OpCase:
		return kid == 0
	}
	return false
}

// literal returns the value of a literal, but for a String, which has none ahead of its run.
func literal(x api.Expr) (api.Value, bool) {
	switch name := x.Types[0].Name; name {
	case "String":
		return api.Value{}, true
	case "Bool":
		return truth(x.Text == "true"), x.Text == "true" || x.Text == "false"
	default:
		v, e := num.Parse(name, x.Text)
		return v, e == api.OK
	}
}

func truth(is bool) api.Value {
	v := api.Value{Kind: api.ValBool}
	if is {
		v.Lo = 1
	}
	return v
}

func unit(name string) api.Value { return api.Value{Kind: api.ValUnit, Name: name} }
