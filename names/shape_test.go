package names_test

import (
	"testing"

	"hackamore/api"
	"hackamore/names"
)

func val(name string) api.Type { return api.Type{Kind: api.TypeName, Name: name, Cap: api.Val} }

func leaf() api.Expr { return api.Expr{Op: api.OpThis} }

// sound returns a small program of the right form, with a body.
func sound(body api.Expr) []api.Entity {
	return []api.Entity{
		{Kind: api.Trait, Name: "T", Cap: api.Box},
		{
			Kind: api.Class, Name: "C", Cap: api.Ref,
			Bounds:   []api.Bound{{Name: "A", Type: api.Type{Kind: api.TypeName, Name: "Any", Cap: api.CapAny}}},
			Provides: []api.Type{val("T")},
			Fields:   []api.Field{{Name: "x", Type: val("U8")}},
			Methods: []api.Method{{
				Kind: api.Fun, Name: "f", Cap: api.Box, Bounds: []api.Bound{{Name: "B", Type: api.Type{Kind: api.TypeParam, Name: "A"}}},
				Params: []api.Param{{Name: "y", Type: val("U8")}}, Result: val("None"), Body: body,
			}},
		},
	}
}

// TestCheckEntities is P6.1 for Check, one wrong thing at a time; Equal tells each of these programs from the right one.
func TestCheckEntities(t *testing.T) {
	if e := names.Check(sound(leaf())); e != api.OK || names.Check(nil) != api.OK || names.Check(sound(api.Expr{})) != api.OK {
		t.Fatalf("a right program: error %d", e)
	}
	for i, x := range []struct {
		change func(c *api.Entity)
		want   api.Errno
	}{
		{func(c *api.Entity) { c.Name = "T" }, api.ErrTwice},
		{func(c *api.Entity) { c.Name = "" }, api.ErrForm},
		{func(c *api.Entity) { c.Kind = 0 }, api.ErrForm},
		{func(c *api.Entity) { c.Kind = 6 }, api.ErrForm},
		{func(c *api.Entity) { c.Cap = api.CapNone }, api.ErrForm},
		{func(c *api.Entity) { c.Cap = api.CapRead }, api.ErrForm},
		{func(c *api.Entity) { c.Bounds[0].Name = "" }, api.ErrForm},
		{func(c *api.Entity) { c.Bounds[0].Type.Cap = 12 }, api.ErrForm},
		{func(c *api.Entity) { c.Bounds[0].Type.Cap = api.CapNone }, api.ErrForm},
		{func(c *api.Entity) { c.Bounds[0].Type = api.Type{} }, api.ErrForm},
		{func(c *api.Entity) { c.Bounds[0].Type = api.Type{Kind: api.TypeParam, Name: "A", Cap: api.CapSend} }, api.OK},
		{func(c *api.Entity) {
			c.Bounds[0].Type.Args = []api.Type{{Kind: api.TypeName, Name: "X", Cap: api.CapAny}}
		}, api.ErrForm},
		{func(c *api.Entity) { c.Provides[0].Cap = api.CapAny }, api.ErrForm},
		{func(c *api.Entity) { c.Provides = make([]api.Type, 65) }, api.ErrFull},
		{func(c *api.Entity) { c.Fields[0].Name = "" }, api.ErrForm},
		{func(c *api.Entity) { c.Fields[0].Let = true }, api.OK},
		{func(c *api.Entity) { c.Fields[0].Type.Name = "" }, api.ErrForm},
		{func(c *api.Entity) { c.Fields[0].Type.Mark = 3 }, api.ErrForm},
		{func(c *api.Entity) { c.Fields[0].Type.Mark = api.Aliased }, api.OK},
		{func(c *api.Entity) { c.Fields[0].Type.Kind = 8 }, api.ErrForm},
		{func(c *api.Entity) { c.Fields[0].Type = api.Type{Kind: api.TypeSelf, Cap: api.Ref} }, api.OK},
		{func(c *api.Entity) { c.Fields[0].Type = api.Type{Kind: api.TypeSelf, Name: "x"} }, api.ErrForm},
		{func(c *api.Entity) { c.Fields[0].Type = api.Type{Kind: api.TypeSelf, Args: []api.Type{val("T")}} }, api.ErrForm},
		{func(c *api.Entity) {
			c.Fields[0].Type = api.Type{Kind: api.TypeUnion, Args: []api.Type{val("T"), val("T")}}
		}, api.OK},
		{func(c *api.Entity) { c.Fields[0].Type = api.Type{Kind: api.TypeUnion, Args: []api.Type{val("T")}} }, api.ErrForm},
		{func(c *api.Entity) {
			c.Fields[0].Type = api.Type{Kind: api.TypeBoth, Name: "x", Args: []api.Type{val("T"), val("T")}}
		}, api.ErrForm},
		{func(c *api.Entity) {
			c.Fields[0].Type = api.Type{Kind: api.TypeTuple, Cap: api.Val, Args: []api.Type{val("T"), val("T")}}
		}, api.ErrForm},
		{func(c *api.Entity) {
			c.Fields[0].Type = api.Type{Kind: api.TypeTuple, Mark: 1, Args: []api.Type{val("T"), val("T")}}
		}, api.ErrForm},
		{func(c *api.Entity) {
			c.Fields[0].Type = api.Type{Kind: api.TypeArrow, Args: []api.Type{val("T"), val("T")}}
		}, api.ErrForm},
		{func(c *api.Entity) {
			c.Fields[0].Type = api.Type{Kind: api.TypeArrow, Args: []api.Type{{Kind: api.TypeSelf}, val("T")}}
		}, api.OK},
		{func(c *api.Entity) {
			c.Fields[0].Type = api.Type{Kind: api.TypeArrow, Args: []api.Type{{Kind: api.TypeSelf}, val("T"), val("T")}}
		}, api.ErrForm},
		{func(c *api.Entity) { c.Methods[0].Name = "" }, api.ErrForm},
		{func(c *api.Entity) { c.Methods[0].Kind = 4 }, api.ErrForm},
		{func(c *api.Entity) { c.Methods[0].Cap = 0 }, api.ErrForm},
		{func(c *api.Entity) { c.Methods[0].Partial = true }, api.OK},
		{func(c *api.Entity) { c.Methods[0].Bounds[0].Name = "" }, api.ErrForm},
		{func(c *api.Entity) { c.Methods[0].Params[0].Name = "" }, api.ErrForm},
		{func(c *api.Entity) { c.Methods[0].Params[0].Type = api.Type{} }, api.ErrForm},
		{func(c *api.Entity) { c.Methods[0].Result = api.Type{} }, api.ErrForm},
		{func(c *api.Entity) { c.Methods = make([]api.Method, 65) }, api.ErrFull},
		{func(c *api.Entity) { c.Fields = make([]api.Field, 65) }, api.ErrFull},
		{func(c *api.Entity) { c.Bounds = make([]api.Bound, 65) }, api.ErrFull},
		{func(c *api.Entity) { c.Methods[0].Params = make([]api.Param, 65) }, api.ErrFull},
		{func(c *api.Entity) { c.Methods[0].Bounds = make([]api.Bound, 65) }, api.ErrFull},
		{func(c *api.Entity) { c.Name, c.Fields = "T", make([]api.Field, 65) }, api.ErrTwice},
	} {
		p := sound(leaf())
		x.change(&p[1])
		if e := names.Check(p); e != x.want {
			t.Errorf("change %d: error %d, want %d", i, e, x.want)
		}
		if names.Equal(p, sound(leaf())) || names.Equal(sound(leaf()), p) || !names.Equal(p, p) {
			t.Errorf("change %d: Equal", i)
		}
	}
	many := make([]api.Entity, api.MaxUnits+1)
	if e := names.Check(many); e != api.ErrFull {
		t.Errorf("too many entities: error %d", e)
	}
	if e := names.Check(many[1:]); e != api.ErrForm {
		t.Errorf("entities that are none: error %d", e)
	}
	if names.Equal(sound(leaf()), sound(leaf())[:1]) || names.Equal(sound(leaf()), sound(api.Expr{})) || !names.Equal(nil, []api.Entity{}) {
		t.Error("Equal of other programs")
	}
	empty := sound(leaf())
	empty[0].Fields, empty[0].Bounds, empty[1].Methods[0].Body.Kids = []api.Field{}, []api.Bound{}, []api.Expr{}
	if !names.Equal(empty, sound(leaf())) {
		t.Error("Equal of empty lists")
	}
}

// TestCheckBodies is P6.1 for Check, for expressions of all operations.
func TestCheckBodies(t *testing.T) {
	kids := func(n int) []api.Expr {
		l := make([]api.Expr, n)
		for i := range l {
			l[i] = leaf()
		}
		return l
	}
	types := func(n int) []api.Type {
		l := make([]api.Type, n)
		for i := range l {
			l[i] = val("U8")
		}
		return l
	}
	const many = 9
	for op, x := range map[int]struct{ text, leastTypes, mostTypes, leastKids, mostKids int }{
		api.OpLit: {1, 1, 1, 0, 0}, api.OpLocal: {2, 0, 0, 0, 0}, api.OpThis: {0, 0, 0, 0, 0}, api.OpGet: {2, 0, 0, 1, 1}, api.OpSet: {2, 0, 0, 2, 2}, api.OpVar: {2, 1, 1, 0, 1}, api.OpLet: {2, 1, 1, 0, 1}, api.OpAssign: {2, 0, 0, 1, 1}, api.OpConsume: {2, 0, 0, 0, 0},
		api.OpSeq: {0, 0, 0, 0, many}, api.OpIf: {0, 0, 0, 3, 3}, api.OpWhile: {0, 0, 0, 3, 3}, api.OpMatch: {0, 0, 0, 1, 1}, api.OpTry: {0, 0, 0, 3, 3}, api.OpError: {0, 0, 0, 0, 0}, api.OpReturn: {0, 0, 0, 1, 1}, api.OpBreak: {0, 0, 0, 0, 0}, api.OpContinue: {0, 0, 0, 0, 0},
		api.OpCall: {2, 0, many, 1, many}, api.OpNew: {2, 1, many, 0, many}, api.OpTuple: {0, 0, 0, 2, many}, api.OpItem: {2, 0, 0, 1, 1}, api.OpIs: {0, 0, 0, 2, 2}, api.OpUnit: {0, 1, 1, 0, 0}, api.OpCase: {3, 1, 1, 2, 2},
		0: {3, 0, 0, 0, 0}, 27: {3, 0, 0, 0, 0}, -1: {3, 0, 0, 0, 0},
	} {
		for _, text := range []string{"", "0"} {
			for nt := range 5 {
				for nk := range 5 {
					body := api.Expr{Op: op, Text: text, Types: types(nt), Kids: kids(nk)}
					right := (x.text == 1 || x.text == 2 && text != "" || x.text == 0 && text == "") && nt >= x.leastTypes && nt <= x.mostTypes && nk >= x.leastKids && nk <= x.mostKids
					right = right || op == 0 && text == "" && nt+nk == 0
					if e := names.Check(sound(body)); (e == api.OK) != right || !right && e != api.ErrForm {
						t.Errorf("the operation %d with the text %q, %d types and %d kids: error %d", op, text, nt, nk, e)
					}
				}
			}
		}
	}
	self := api.Type{Kind: api.TypeSelf, Cap: api.Iso}
	one := api.Expr{Op: api.OpCase, Types: types(1), Kids: []api.Expr{{}, leaf()}}
	for i, x := range []struct {
		body api.Expr
		want api.Errno
	}{
		{api.Expr{Op: api.OpRecover, Types: []api.Type{self}, Kids: kids(1)}, api.OK},
		{api.Expr{Op: api.OpRecover, Types: types(1), Kids: kids(1)}, api.ErrForm},
		{api.Expr{Op: api.OpRecover, Types: []api.Type{{Kind: api.TypeSelf}}, Kids: kids(1)}, api.ErrForm},
		{api.Expr{Op: api.OpMatch, Kids: []api.Expr{leaf(), one, one}}, api.OK},
		{api.Expr{Op: api.OpMatch, Kids: []api.Expr{one, one}}, api.ErrForm},
		{api.Expr{Op: api.OpMatch, Kids: []api.Expr{leaf(), leaf()}}, api.ErrForm},
		{api.Expr{Op: api.OpMatch, Kids: []api.Expr{leaf(), {}}}, api.ErrForm},
		{api.Expr{Op: api.OpMatch, Kids: []api.Expr{leaf(), {Op: api.OpCase, Text: "x", Types: types(1), Kids: kids(2)}}}, api.OK},
		{api.Expr{Op: api.OpMatch, Kids: []api.Expr{leaf(), {Op: api.OpCase, Types: types(1), Kids: []api.Expr{leaf(), {}}}}}, api.ErrForm},
		{api.Expr{Op: api.OpMatch, Kids: []api.Expr{leaf(), {Op: api.OpCase, Types: types(1), Kids: []api.Expr{{Text: "x"}, leaf()}}}}, api.ErrForm},
		{api.Expr{Op: api.OpSeq, Kids: []api.Expr{one}}, api.ErrForm},
		{api.Expr{Op: api.OpSeq, Kids: []api.Expr{{}}}, api.ErrForm},
		{api.Expr{Op: api.OpReturn, Kids: []api.Expr{{}}}, api.ErrForm},
		{api.Expr{Op: api.OpSeq, Kids: []api.Expr{leaf(), {Op: api.OpGet, Text: "x"}}}, api.ErrForm},
		{api.Expr{Op: api.OpUnit, Types: []api.Type{{}}}, api.ErrForm},
		{api.Expr{Op: api.OpUnit, Types: []api.Type{{Kind: api.TypeName, Name: "x", Cap: api.CapAny}}}, api.ErrForm},
		{api.Expr{Op: api.OpSeq, Kids: kids(api.MaxNodes - 1)}, api.OK},
		{api.Expr{Op: api.OpSeq, Kids: make([]api.Expr, api.MaxNodes)}, api.ErrSize},
		{nest(api.MaxTree - 1), api.OK},
		{nest(api.MaxTree), api.ErrSize},
	} {
		if e := names.Check(sound(x.body)); e != x.want {
			t.Errorf("body %d: error %d, want %d", i, e, x.want)
		}
	}
	p := sound(leaf())
	p[1].Methods = append(p[1].Methods, p[1].Methods[0])
	p[1].Methods[0].Body = api.Expr{Op: api.OpGet}
	p[1].Methods[1].Body = nest(api.MaxTree)
	if e := names.Check(p); e != api.ErrForm {
		t.Errorf("the first of two wrong methods: error %d", e)
	}
	p[1].Methods[1].Result = api.Type{}
	p[1].Methods[0].Body = nest(api.MaxTree)
	if e := names.Check(p); e != api.ErrForm {
		t.Errorf("a wrong type and a large body: error %d", e)
	}
	p = append(sound(nest(api.MaxTree)), api.Entity{Name: "C"})
	if e := names.Check(p); e != api.ErrSize {
		t.Errorf("a large body ahead of a second entity with its name: error %d", e)
	}
}

// nest returns an expression in some others.
func nest(n int) api.Expr {
	x := leaf()
	for range n {
		x = api.Expr{Op: api.OpReturn, Kids: []api.Expr{x}}
	}
	return x
}
