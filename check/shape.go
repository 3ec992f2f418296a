package check

import (
	"strconv"

	"hackamore/api"
	"hackamore/exprs"
	"hackamore/types"
)

// What the Text of an operation is.
const (
	noText = iota
	anyText
	nameText
	maybeName
	indexText
)

// many stands for any number of Kids.
const many = -1

// maxIndex is the greatest index of an element of a tuple.
const maxIndex = api.MaxList - 1

// form says what an operation asks of its nodes: the Text, how many Types, and of which Kind (0: any), the least and the greatest
// number of Kids, and, by bits, which Kids may be none.
type form struct {
	text, types, kind, least, most, lacks int
}

// forms has the form of each operation.
var forms = [api.OpLast + 1]form{
	api.OpLit:     {text: anyText, types: 1, kind: api.TypeName},
	api.OpLocal:   {text: nameText},
	api.OpGet:     {text: nameText, least: 1, most: 1},
	api.OpSet:     {text: nameText, least: 2, most: 2},
	api.OpVar:     {text: nameText, types: 1, most: 1},
	api.OpLet:     {text: nameText, types: 1, most: 1},
	api.OpAssign:  {text: nameText, least: 1, most: 1},
	api.OpConsume: {text: nameText},
	api.OpSeq:     {most: many},
	api.OpIf:      {least: 3, most: 3, lacks: 1 << 2},
	api.OpWhile:   {least: 3, most: 3, lacks: 1 << 2},
	api.OpMatch:   {least: 2, most: many},
	api.OpCase:    {text: maybeName, types: 1, least: 2, most: 2, lacks: 1 << 0},
	api.OpTry:     {least: 3, most: 3, lacks: 1<<1 | 1<<2},
	api.OpReturn:  {most: 1},
	api.OpCall:    {text: nameText, least: 1, most: many},
	api.OpNew:     {text: nameText, types: 1, kind: api.TypeName, most: many},
	api.OpRecover: {types: 1, kind: api.TypeSelf, least: 1, most: 1},
	api.OpTuple:   {least: 2, most: api.MaxList},
	api.OpItem:    {text: indexText, least: 1, most: 1},
	api.OpIs:      {least: 2, most: 2},
	api.OpUnit:    {types: 1, kind: api.TypeName},
}

// Shape returns the path of the first node of an expression that is not as its operation asks, and its error.
func Shape(x api.Expr) ([]int, api.Errno) {
	if !isSmall(x) {
		return nil, api.ErrSize
	}
	for path, n := range exprs.Walk(x) {
		isStray := n.Op == api.OpCase && len(path) == 0
		if !isNone(n) && (isStray || !isFormed(n)) {
			return append([]int(nil), path...), api.ErrForm
		}
	}
	return nil, api.OK
}

// isSmall reports whether an expression has at most MaxNodes nodes, and at most the depth MaxTree.
func isSmall(x api.Expr) bool {
	nodes := 0
	for path := range exprs.Walk(x) {
		nodes++
		if nodes > api.MaxNodes || len(path) >= api.MaxTree {
			return false
		}
	}
	return true
}

// isFormed reports whether a node by itself is as its operation asks. What its Kids are counts only as far as they are none, or
// cases.
func isFormed(x api.Expr) bool {
	if x.Op < api.OpLit || x.Op > api.OpLast {
		return false
	}
	f := forms[x.Op]
	return isText(f.text, x.Text) && f.takesTypes(x.Types) && f.takesKids(x)
}

func (f form) takesTypes(l []api.Type) bool {
	if len(l) != f.types {
		return false
	}
	for _, t := range l {
		if types.Check(t) != api.OK || f.kind != 0 && t.Kind != f.kind {
			return false
		}
	}
	return true
}

func (f form) takesKids(x api.Expr) bool {
	if len(x.Kids) < f.least || f.most != many && len(x.Kids) > f.most {
		return false
	}
	for i, k := range x.Kids {
		isCase := x.Op == api.OpMatch && i > 0
		if (k.Op == api.OpCase) != isCase || isNone(k) && f.lacks>>i&1 == 0 {
			return false
		}
	}
	return true
}

// isText reports whether a Text is what an operation asks for.
func isText(kind int, s string) bool {
	switch kind {
	case anyText:
		return true
	case nameText:
		return s != "" && len(s) <= api.MaxName
	case maybeName:
		return len(s) <= api.MaxName
	case indexText:
		n, err := strconv.Atoi(s)
		return err == nil && n >= 0 && n <= maxIndex && strconv.Itoa(n) == s
	}
	return s == ""
}
