package names

import (
	"hackamore/api"
	"hackamore/exprs"
)

// Check returns the error of a program: of its form alone.
func Check(p []api.Entity) api.Errno {
	if len(p) > api.MaxUnits {
		return api.ErrFull
	}
	seen := map[string]bool{}
	for _, x := range p {
		if seen[x.Name] {
			return api.ErrTwice
		}
		seen[x.Name] = true
		if e := checkEntity(x); e != api.OK {
			return e
		}
	}
	return api.OK
}

func checkEntity(x api.Entity) api.Errno {
	if listsTooMuch(x) {
		return api.ErrFull
	}
	if !isEntity(x) {
		return api.ErrForm
	}
	shapes := exprShapes()
	for _, m := range x.Methods {
		if !exprs.IsSmall(m.Body) {
			return api.ErrSize
		}
		if !exprs.IsNone(m.Body) && (m.Body.Op == api.OpCase || !isExpr(m.Body, &shapes)) {
			return api.ErrForm
		}
	}
	return api.OK
}

// listsTooMuch reports whether an entity has more than MaxList of anything that it lists.
func listsTooMuch(x api.Entity) bool {
	most := max(len(x.Bounds), len(x.Provides), len(x.Fields), len(x.Methods))
	for _, m := range x.Methods {
		most = max(most, len(m.Bounds), len(m.Params))
	}
	return most > api.MaxList
}

func within(n, least, most int) bool { return least <= n && n <= most }

func isCap(n int) bool { return within(n, api.Iso, api.Tag) }

// isEntity reports whether an entity has its form, but for the bodies of methods.
func isEntity(x api.Entity) bool {
	if !within(x.Kind, api.Class, api.Interface) || x.Name == "" || !isCap(x.Cap) || !areBounds(x.Bounds) || !areTypes(x.Provides) {
		return false
	}
	for _, f := range x.Fields {
		if f.Name == "" || !isType(f.Type, false) {
			return false
		}
	}
	for _, m := range x.Methods {
		if !isMethod(m) {
			return false
		}
	}
	return true
}

func isMethod(m api.Method) bool {
	for _, p := range m.Params {
		if p.Name == "" || !isType(p.Type, false) {
			return false
		}
	}
	return within(m.Kind, api.New, api.Be) && m.Name != "" && isCap(m.Cap) && areBounds(m.Bounds) && isType(m.Result, false)
}

func areBounds(l []api.Bound) bool {
	for _, b := range l {
		if b.Name == "" || !isType(b.Type, true) {
			return false
		}
	}
	return true
}

func areTypes(l []api.Type) bool {
	for _, t := range l {
		if !isType(t, false) {
			return false
		}
	}
	return true
}

// isType reports whether a type has its form; that of a bound may have one of the sets of capabilities.
func isType(t api.Type, bound bool) bool {
	if !areTypes(t.Args) || !within(t.Mark, api.Plain, api.Aliased) {
		return false
	}
	set := bound && within(t.Cap, api.CapRead, api.CapAny)
	switch t.Kind {
	case api.TypeName:
		return t.Name != "" && (isCap(t.Cap) || set)
	case api.TypeParam:
		return t.Name != "" && len(t.Args) == 0 && (t.Cap == api.CapNone || isCap(t.Cap) || set)
	case api.TypeSelf:
		return t.Name == "" && len(t.Args) == 0 && (t.Cap == api.CapNone || isCap(t.Cap))
	}
	if t.Name != "" || t.Cap != api.CapNone || t.Mark != api.Plain {
		return false
	}
	switch t.Kind {
	case api.TypeUnion, api.TypeBoth, api.TypeTuple:
		return len(t.Args) >= 2
	case api.TypeArrow:
		return len(t.Args) == 2 && (t.Args[0].Kind == api.TypeSelf || t.Args[0].Kind == api.TypeParam)
	}
	return false
}

// exprShape is what an operation has: Texts (none, one that may be empty, or one that may not), and how many Types and Kids.
type exprShape struct {
	text                 int
	leastTypes, mostType int
	leastKids, mostKids  int
}

const (
	noText = iota
	anyText
	someText
)

func exprShapes() [api.OpLast + 1]exprShape {
	const many = 1 << 30
	return [api.OpLast + 1]exprShape{
		api.OpLit:      {anyText, 1, 1, 0, 0},
		api.OpLocal:    {someText, 0, 0, 0, 0},
		api.OpThis:     {noText, 0, 0, 0, 0},
		api.OpGet:      {someText, 0, 0, 1, 1},
		api.OpSet:      {someText, 0, 0, 2, 2},
		api.OpVar:      {someText, 1, 1, 0, 1},
		api.OpLet:      {someText, 1, 1, 0, 1},
		api.OpAssign:   {someText, 0, 0, 1, 1},
		api.OpConsume:  {someText, 0, 0, 0, 0},
		api.OpSeq:      {noText, 0, 0, 0, many},
		api.OpIf:       {noText, 0, 0, 3, 3},
		api.OpWhile:    {noText, 0, 0, 3, 3},
		api.OpMatch:    {noText, 0, 0, 1, many},
		api.OpCase:     {anyText, 1, 1, 2, 2},
		api.OpTry:      {noText, 0, 0, 3, 3},
		api.OpError:    {noText, 0, 0, 0, 0},
		api.OpReturn:   {noText, 0, 0, 1, 1},
		api.OpBreak:    {noText, 0, 0, 0, 0},
		api.OpContinue: {noText, 0, 0, 0, 0},
		api.OpCall:     {someText, 0, many, 1, many},
		api.OpNew:      {someText, 1, many, 0, many},
		api.OpRecover:  {noText, 1, 1, 1, 1},
		api.OpTuple:    {noText, 0, 0, 2, many},
		api.OpItem:     {someText, 0, 0, 1, 1},
		api.OpIs:       {noText, 0, 0, 2, 2},
		api.OpUnit:     {noText, 1, 1, 0, 0},
	}
}

// isExpr reports whether an expression has its form; a case is none, but where it stands in a match.
func isExpr(x api.Expr, shapes *[api.OpLast + 1]exprShape) bool {
	if !within(x.Op, 1, api.OpLast) || !areTypes(x.Types) {
		return false
	}
	s := shapes[x.Op]
	if !within(len(x.Types), s.leastTypes, s.mostType) || !within(len(x.Kids), s.leastKids, s.mostKids) {
		return false
	}
	if s.text == noText && x.Text != "" || s.text == someText && x.Text == "" {
		return false
	}
	if x.Op == api.OpRecover && (x.Types[0].Kind != api.TypeSelf || !isCap(x.Types[0].Cap)) {
		return false
	}
	for i, k := range x.Kids {
		guard := x.Op == api.OpCase && i == 0
		if guard && exprs.IsNone(k) {
			continue
		}
		isCase := x.Op == api.OpMatch && i > 0
		if isCase != (k.Op == api.OpCase) || !isExpr(k, shapes) {
			return false
		}
	}
	return true
}
