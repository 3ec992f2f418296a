package parser_test

import (
	"slices"
	"strings"
	"testing"

	"hackamore/api"
	"hackamore/format"
	"hackamore/parser"
	"hackamore/sample"
	"hackamore/syntax"
	"hackamore/token"
)

// shown returns the text of a tree, where names and types stand for themselves.
func shown(n api.Node) string {
	switch {
	case n.Kind == syntax.Name || n.Kind == syntax.IntLit:
		return n.Text
	case n.Kind == syntax.Word:
		return "'" + n.Text
	case n.Kind == syntax.Nothing:
		return "_"
	case n.Kind == syntax.NamedType && len(n.Kids) == 2 && n.Kids[0].Text+n.Kids[1].Text == "":
		return n.Text
	}
	s, _ := syntax.Text(api.Node{Kind: n.Kind})
	if s == "" {
		s, _ = syntax.Text(n)
		s = s[:strings.IndexAny(s, " )")]
	}
	out := strings.TrimSuffix(s, ")")
	if n.Text != "" {
		out += ":" + n.Text
	}
	for _, k := range n.Kids {
		out += " " + shown(k)
	}
	return out + ")"
}

// TestExpr is P3.1 and P3.2 for expressions.
func TestExpr(t *testing.T) {
	for text, want := range map[string]string{
		"x = f(1) - 2":                   "(Assign x (Binary:- (Call f ' 1) 2))",
		"x = f(1)\n- 2":                  "(Seq (Assign x (Call f ' 1)) (Unary:- 2))",
		"a + b + c":                      "(Binary:+ (Binary:+ a b) c)",
		"a + (b + c)":                    "(Binary:+ a (Binary:+ b c))",
		"a\n+ b\nis c":                   "",
		"a\n+ b":                         "(Binary:+ a b)",
		"a\n.b\n.>c\n~d":                 "(Tilde:d (Chain:c (Dot:b a)))",
		"a\n(b)\n[as T:]":                "(Seq a b (Array T))",
		"a;b;\nc":                        "(Seq a b c)",
		"(a; b); (c\nd)":                 "(Seq a b c d)",
		"((a))":                          "a",
		"(a; b, c)":                      "(Tuple (Seq a b) c)",
		"((a, b))":                       "(Tuple a b)",
		"f()?(a)?":                       "(Call (Call f '?) '? a)",
		"f(a = b, c where d = e, g = h)": "(Call f ' (Assign a b) c (Named:d e) (Named:g h))",
		"f(where d = e)":                 "(Call f ' (Named:d e))",
		"a[B, C](d)":                     "(Call (Qualify a B C) ' d)",
		"not -consume a.b":               "(Unary:not (Unary:- (Consume (Dot:b a))))",
		"a as B":                         "(As a B)",
		"a\nas B":                        "(As a B)",
		"a as B\n[as T:]":                "(Seq (As a B) (Array T))",
		"a as B->C":                      "(As a (ArrowType B C))",
		"(a as B) + c":                   "(Binary:+ (As a B) c)",
		"return":                         "(Return _)",
		"return a":                       "(Return a)",
		"return\na":                      "(Seq (Return _) a)",
		"return -a":                      "(Return (Unary:- a))",
		"return (a, b)":                  "(Return (Tuple a b))",
		"return; a":                      "(Seq (Return _) a)",
		"break; continue; error":         "(Seq (Break) (Continue) (Error))",
		"a = b = c":                      "(Assign a (Assign b c))",
		"(a, (let b: B, c.d)) = e":       "(Assign (Tuple a (Tuple (Decl:b 'let B) (Dot:d c))) e)",
		"let x: p.B ref^ = a":            "(Assign (Decl:x 'let (NamedType:p.B 'ref '^)) a)",
		"[as T: a; b = c\nd]":            "(Array T a (Assign b c) d)",
		"[as T: (a; b)]":                 "(Array T a b)",
		"[as T: (a; b); c]":              "(Array T a b c)",
		"if a then b end":                "(If a b _)",
		"if a; b then c elseif d then e else f end":    "(If (Seq a b) c (If d e f))",
		"if a then b else if c then d end end":         "(If a b (If c d _))",
		"ifdef a and not b then c else d end":          "(Ifdef (Binary:and a (Unary:not b)) c d)",
		"while a do b else c end":                      "(While a b c)",
		"repeat a; b until c end":                      "(Repeat (Seq a b) c)",
		"for x: T in a do b end":                       "(For:x T a b _)",
		"with x: T = a do b end":                       "(With:x T a b)",
		"match a | b => c | d if e => f; g else h end": "(Match a h (Case b _ c) (Case d e (Seq f g)))",
		"try a end":               "(Try a _ _)",
		"try a else b then c end": "(Try a b c)",
		"recover iso a end.b":     "(Dot:b (Recover 'iso a))",
		"object val is T let x: U = a\nfun f() => b end": "(Object 'val T (Field:x 'let U a) (Method:f 'fun ' (Bounds) (Params) _ ' b))",
		"object end": "(Object ' _)",
		"{() => a }": "(Lambda ' (Params) _ ' a)",
		"{(x: T = a)(y: U = b): V ? => c; d } iso": "(Lambda 'iso (Params (Param:x T a)) V '? (Seq c d) (Capture:y U b))",
		"true; false; this; 1.5; \"s\"; 'a'":       "(Seq (BoolLit:true) (BoolLit:false) (This) (FloatLit:1.5) (StringLit:s) 97)",
		"f(\na\n)":                                 "(Call f ' a)",
		"let x: {(A, B): C ?} val^":                "(Decl:x 'let (LambdaType 'val '^ '? C A B))",
	} {
		n, at, e := parser.Expr(text)
		if want == "" {
			if e != parser.ErrMix || at != 6 {
				t.Errorf("%q: error %d at %d", text, e, at)
			}
			continue
		}
		if e != api.OK || at != 0 || shown(n) != want {
			t.Errorf("%q: %s, error %d at %d; want %s", text, shown(n), e, at, want)
		}
		if syntax.Check(n) != api.OK {
			t.Errorf("%q: the tree is not well-formed", text)
		}
	}
}

// TestType is P3.1 and P3.2 for types.
func TestType(t *testing.T) {
	for text, want := range map[string]string{
		"A":                   "A",
		"(A)":                 "A",
		"A | B | C":           "(UnionType A B C)",
		"A & (B | C)":         "(BothType A (UnionType B C))",
		"((A | B) | C)":       "(UnionType (UnionType A B) C)",
		"(A, B | C)":          "(TupleType A (UnionType B C))",
		"this->A!":            "(ArrowType (ThisType) (NamedType:A ' '!))",
		"A->B->C":             "(ArrowType A (ArrowType B C))",
		"(A->B)->C | D":       "(UnionType (ArrowType (ArrowType A B) C) D)",
		"p.A[B, C[D]] #read^": "(NamedType:p.A '#read '^ B (NamedType:C ' ' D))",
		"{()}":                "(LambdaType ' ' ' _)",
		"{(A): B ?} tag!":     "(LambdaType 'tag '! '? B A)",
		"A\niso":              "(NamedType:A 'iso ')",
	} {
		n, at, e := parser.Type(text)
		if e != api.OK || at != 0 || shown(n) != want {
			t.Errorf("%q: %s, error %d at %d; want %s", text, shown(n), e, at, want)
		}
	}
	for text, at := range map[string]int{"A, B": 1, "A\n[B]": 2, "A\n.B": 2, "A[]": 2, "()": 1, "A iso val": 6, "this iso": 5, "A^!": 2, "1": 0, "{A}": 1, "A.B.C": 3} {
		if n, place, e := parser.Type(text); e != parser.ErrToken || place != at || n.Kind != 0 {
			t.Errorf("%q: error %d at %d; want %d", text, e, place, at)
		}
	}
	for text, at := range map[string]int{"A | B & C": 6, "A & B | C": 6, "(A, B & C | D)": 10} {
		if _, place, e := parser.Type(text); e != parser.ErrMix || place != at {
			t.Errorf("%q: error %d at %d; want %d", text, e, place, at)
		}
	}
}

// TestModule is P3.1 and P3.2 for modules.
func TestModule(t *testing.T) {
	for text, want := range map[string]string{
		"":                          "(Module)",
		"use \"a/b\" if x\nclass C": "(Module (Use:a/b x) (Entity:C 'class ' (Bounds) _))",
		"type iso A[B: C, D] is B":  "(Module (Entity:A 'type 'iso (Bounds (Bound:B C) (Bound:D _)) B))",
		"actor A is (B & C) var x: T let y: U = 1 new f() be g[Z](a: T = 2): U ? => x fun h() => y\nz trait B": "(Module (Entity:A 'actor ' (Bounds) (BothType B C) (Field:x 'var T _) (Field:y 'let U 1) " +
			"(Method:f 'new ' (Bounds) (Params) _ ' _) (Method:g 'be ' (Bounds (Bound:Z _)) (Params (Param:a T 2)) U '? x) (Method:h 'fun ' (Bounds) (Params) _ ' (Seq y z))) (Entity:B 'trait ' (Bounds) _))",
	} {
		n, at, e := parser.Parse(text)
		if e != api.OK || at != 0 || shown(n) != want {
			t.Errorf("%q: %s, error %d at %d; want %s", text, shown(n), e, at, want)
		}
	}
}

// TestErrors is P3.1 and P3.3: which error, and where.
func TestErrors(t *testing.T) {
	long := strings.Repeat("x", api.MaxName+1)
	for _, x := range []struct {
		text string
		at   int
		code api.Errno
	}{
		{"a + b * c", 6, parser.ErrMix}, {"a as B as C", 7, parser.ErrMix}, {"a + b as C", 6, parser.ErrMix}, {"a as B + c", 7, parser.ErrMix}, {"a as B - c", 7, parser.ErrMix},
		{"a b", 2, parser.ErrToken}, {"a;", 2, api.ErrEnd}, {"a;;b", 2, parser.ErrToken}, {"(a;)", 3, parser.ErrToken}, {"", 0, api.ErrEnd}, {" // c", 5, api.ErrEnd},
		{"return return", 7, parser.ErrToken}, {"x = return", 4, parser.ErrToken}, {"a + b = c", 6, api.ErrForm}, {"this = @", 7, token.ErrChar}, {"this = a", 5, api.ErrForm}, {"(a; b) = c", 7, api.ErrForm}, {"(a, this) = (", 10, api.ErrForm},
		{"()", 1, parser.ErrToken}, {"(a,)", 3, parser.ErrToken}, {"f(a;b)", 3, parser.ErrToken}, {"f(a where b)", 11, parser.ErrToken}, {"f(a, where b = c)", 5, parser.ErrToken}, {"f(where b = c = d)", 14, parser.ErrToken},
		{"if a end", 5, parser.ErrToken}, {"if a then", 9, api.ErrEnd}, {"match a end", 8, parser.ErrToken}, {"match a | b c end", 12, parser.ErrToken}, {"a => b", 2, parser.ErrToken}, {"a : b", 2, parser.ErrToken},
		{"let x = 1", 6, parser.ErrToken}, {"a." + long, 2, api.ErrForm}, {long, 0, api.ErrForm}, {"let x: p." + long, 9, api.ErrForm}, {"a." + long[1:] + " b", 63, parser.ErrToken},
		{"{(x) => a }", 3, parser.ErrToken}, {"{() a }", 4, parser.ErrToken}, {"[a]", 1, parser.ErrToken}, {"[as T a]", 6, parser.ErrToken}, {"f\n(a) ?", 6, parser.ErrToken}, {"f(a)\n?", 5, parser.ErrToken},
		{"object new f() end x", 19, parser.ErrToken}, {"object fun f() var x: T end", 15, parser.ErrToken}, {"a = b c", 6, parser.ErrToken}, {"\"a\" \"b\"", 4, parser.ErrToken}, {"end", 0, parser.ErrToken},
	} {
		n, at, e := parser.Expr(x.text)
		if e != x.code || at != x.at || n.Kind != 0 {
			t.Errorf("%q: error %d at %d; want %d at %d", x.text, e, at, x.code, x.at)
		}
	}
	for _, x := range []struct {
		text string
		at   int
		code api.Errno
	}{
		{"class", 5, api.ErrEnd}, {"class C\n  fun f( => 1", 17, parser.ErrToken}, {"x", 0, parser.ErrToken}, {"class C use \"p\"", 8, parser.ErrToken}, {"use p", 4, parser.ErrToken}, {"use \"\"", 4, api.ErrForm}, {"use \"a//b\" @", 11, token.ErrChar},
		{"use \"a b\"", 4, api.ErrForm}, {"type A", 6, api.ErrEnd}, {"type A is B var x: C", 12, parser.ErrToken}, {"class C fun f() let x: T", 16, parser.ErrToken}, {"class C[]", 8, parser.ErrToken}, {"class C var x: T = a = b", 21, parser.ErrToken},
		{"class C is A | B", 13, parser.ErrToken}, {"class #any C", 6, parser.ErrToken}, {"object C", 0, parser.ErrToken}, {strings.Repeat(" ", api.MaxSource+1), 0, api.ErrLarge},
	} {
		n, at, e := parser.Parse(x.text)
		if e != x.code || at != x.at || n.Kind != 0 {
			t.Errorf("%q: error %d at %d; want %d at %d", x.text, e, at, x.code, x.at)
		}
	}
}

// TestLarge is P3.1 for trees that are too large, or too deep, which is told behind the errors of the grammar.
func TestLarge(t *testing.T) {
	most := strings.Repeat("a;", api.MaxNodes-2) + "a"
	if n, _, e := parser.Expr(most); e != api.OK || len(n.Kids) != api.MaxNodes-1 {
		t.Errorf("the largest seq: error %d", e)
	}
	deep := strings.Repeat("-", api.MaxTree-1) + "a"
	if _, _, e := parser.Expr(deep); e != api.OK {
		t.Errorf("the deepest tree: error %d", e)
	}
	for _, s := range []string{most + ";a", "-" + deep, strings.Repeat("(", 9000) + deep + ",a" + strings.Repeat(")", 9000)} {
		if _, at, e := parser.Expr(s); e != api.ErrSize || at != 0 {
			t.Errorf("a tree that is too large: error %d at %d", e, at)
		}
		if _, at, e := parser.Expr(s + " )"); e != parser.ErrToken || at != len(s)+1 {
			t.Errorf("a tree that is too large, with an error: error %d at %d", e, at)
		}
	}
	if _, at, e := parser.Expr(strings.Repeat("(", api.MaxSource)); e != api.ErrEnd || at != api.MaxSource {
		t.Errorf("brackets: error %d at %d", e, at)
	}
	if n, _, e := parser.Expr(strings.Repeat("(", 9000) + "a" + strings.Repeat(")", 9000)); e != api.OK || n.Kind != syntax.Name {
		t.Errorf("brackets around a name: error %d", e)
	}
}

// rewrite returns a text with other blanks between the tokens, whose Lines stay as they are, and with what else is put
// ahead of each token.
func rewrite(text string, l []token.Token, ahead func(i int) string) string {
	out := ""
	for i, x := range l {
		end := len(text)
		if i+1 < len(l) {
			end = l[i+1].At
		}
		gap := " "
		if x.Line && i > 0 {
			gap = "\n"
		}
		out += gap + ahead(i) + text[x.At:end]
	}
	return out
}

// TestLayout is P3.4, and P3.2 for brackets around atoms.
func TestLayout(t *testing.T) {
	for seed := range uint64(300) {
		m := sample.New(seed)
		m.Canonical = true
		n := m.Expr(40)
		text, e := format.Text(n)
		if e != api.OK {
			t.Fatalf("seed %d: error %d", seed, e)
		}
		l, _, _ := token.Scan(text)
		other := rewrite(text, l, func(i int) string { return []string{"", "/* a */ ", "\t", "/* /**/*/"}[i%4] })
		if got, at, e := parser.Expr(other); e != api.OK || !syntax.Equal(got, n) {
			t.Fatalf("seed %d: %q: error %d at %d", seed, other, e, at)
		}
		bracketed := ""
		for i, x := range l {
			s := rewrite(text, l[i:i+1], func(int) string { return "" })
			end := len(text)
			if i+1 < len(l) {
				end = l[i+1].At
			}
			s = text[x.At:end]
			literal := x.Kind == token.Int || x.Kind == token.Float || x.Kind == token.Keyword && (x.Text == "true" || x.Text == "false")
			if literal {
				s = "(" + strings.TrimRight(s, " \n") + ")" + s[len(strings.TrimRight(s, " \n")):]
			}
			bracketed += s
		}
		if got, at, e := parser.Expr(bracketed); e != api.OK || !syntax.Equal(got, n) {
			t.Fatalf("seed %d: %q: error %d at %d", seed, bracketed, e, at)
		}
	}
}

// TestPlaces is P3.3: an error is at a token, or at the end; another end behind the place does not heal it.
func TestPlaces(t *testing.T) {
	for seed := range uint64(400) {
		m := sample.New(seed)
		m.Canonical = true
		text, _ := format.Text(m.Module(30))
		l, _, _ := token.Scan(text)
		if len(l) < 3 {
			continue
		}
		cut := l[int(seed*7)%len(l)]
		broken := text[:cut.At] + []string{" ) ", " x ", " = ", " end ", " | "}[seed%5] + text[cut.At:]
		_, at, e := parser.Parse(broken)
		if e == api.OK || e == api.ErrSize {
			continue
		}
		all, _, _ := token.Scan(broken)
		i := slices.IndexFunc(all, func(x token.Token) bool { return x.At == at })
		if i < 0 && at != len(broken) || at < cut.At && e != parser.ErrMix {
			t.Fatalf("seed %d: %q: error %d at %d, which is no token", seed, broken, e, at)
		}
		if i < 0 {
			continue
		}
		end := len(broken)
		if i+1 < len(all) {
			end = all[i+1].At
		}
		for _, tail := range []string{"", " x", " end", " )"} {
			if _, place, e := parser.Parse(broken[:end] + tail); e == api.OK || place < at {
				t.Fatalf("seed %d: %q with the end %q: error %d at %d, not %d", seed, broken[:end], tail, e, place, at)
			}
		}
	}
}
