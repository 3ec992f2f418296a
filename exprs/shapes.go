package exprs

import (
	"strconv"

	"hackamore/api"
)

// shape is how many types an operation has, and how many kids; any number from least on, if most is below 0.
type shape struct{ types, least, most int }

var shapes = [api.OpLast + 1]shape{
	api.OpLit:      {1, 0, 0},
	api.OpLocal:    {0, 0, 0},
	api.OpThis:     {0, 0, 0},
	api.OpGet:      {0, 1, 1},
	api.OpSet:      {0, 2, 2},
	api.OpVar:      {1, 0, 1},
	api.OpLet:      {1, 0, 1},
	api.OpAssign:   {0, 1, 1},
	api.OpConsume:  {0, 0, 0},
	api.OpSeq:      {0, 0, -1},
	api.OpIf:       {0, 3, 3},
	api.OpWhile:    {0, 3, 3},
	api.OpMatch:    {0, 1, -1},
	api.OpCase:     {1, 2, 2},
	api.OpTry:      {0, 3, 3},
	api.OpError:    {0, 0, 0},
	api.OpReturn:   {0, 0, 1},
	api.OpBreak:    {0, 0, 0},
	api.OpContinue: {0, 0, 0},
	api.OpCall:     {0, 1, -1},
	api.OpNew:      {1, 0, -1},
	api.OpRecover:  {1, 1, 1},
	api.OpTuple:    {0, 2, -1},
	api.OpItem:     {0, 1, 1},
	api.OpIs:       {0, 2, 2},
	api.OpUnit:     {1, 0, 0},
}

// IsShaped reports whether an expression is none of those without an operation, and has as many types and kids as its own has.
func IsShaped(x api.Expr) bool {
	if x.Op <= 0 || x.Op > api.OpLast {
		return false
	}
	s := shapes[x.Op]
	return len(x.Types) == s.types && len(x.Kids) >= s.least && (s.most < 0 || len(x.Kids) <= s.most)
}

// Index returns the number that decimal digits tell, which may have any number of zeros in front.
func Index(digits string) (int, bool) {
	for _, b := range []byte(digits) {
		if b < '0' || b > '9' {
			return 0, false
		}
	}
	n, e := strconv.Atoi(digits)
	return n, e == nil
}
