package flow

import (
	"hackamore/api"
	"hackamore/exprs"
)

// check returns the error of an expression.
func check(x api.Expr) api.Errno {
	if !exprs.IsSmall(x) {
		return api.ErrSize
	}
	if x.Op == api.OpCase || !isFormed(x) {
		return api.ErrForm
	}
	return api.OK
}

// many stands for any number of Kids.
const many = -1

// arities has the least and the greatest number of Kids of each operation.
var arities = [api.OpLast + 1][2]int{
	api.OpGet:     {1, 1},
	api.OpSet:     {2, 2},
	api.OpVar:     {0, 1},
	api.OpLet:     {0, 1},
	api.OpAssign:  {1, 1},
	api.OpSeq:     {0, many},
	api.OpIf:      {3, 3},
	api.OpWhile:   {3, 3},
	api.OpMatch:   {1, many},
	api.OpCase:    {2, 2},
	api.OpTry:     {3, 3},
	api.OpReturn:  {0, 1},
	api.OpCall:    {1, many},
	api.OpNew:     {0, many},
	api.OpRecover: {1, 1},
	api.OpTuple:   {0, many},
	api.OpItem:    {1, 1},
	api.OpIs:      {2, 2},
}

// isFormed reports whether an expression that is not none has its form.
func isFormed(x api.Expr) bool {
	if x.Op < api.OpLit || x.Op > api.OpLast {
		return false
	}
	if n := arities[x.Op]; len(x.Kids) < n[0] || n[1] != many && len(x.Kids) > n[1] {
		return false
	}
	for i, k := range x.Kids {
		isCase := x.Op == api.OpMatch && i > 0
		switch {
		case exprs.IsNone(k):
			if !mayLack(x.Op, i) {
				return false
			}
		case (k.Op == api.OpCase) != isCase || !isFormed(k):
			return false
		}
	}
	return true
}

// mayLack reports whether a Kid of an operation may be none.
func mayLack(op, i int) bool {
	switch op {
	case api.OpIf, api.OpWhile:
		return i == 2
	case api.OpTry:
		return i > 0
	case api.OpCase:
		return i == 0
	}
	return false
}
