package format_test

import (
	"slices"
	"strings"
	"testing"

	"hackamore/api"
	"hackamore/format"
	"hackamore/parser"
	"hackamore/sample"
	"hackamore/syntax"
	"hackamore/token"
)

// TestExprs is P4.1 for expressions: each text on the left has the canonical one on the right.
func TestExprs(t *testing.T) {
	for text, want := range map[string]string{
		"(a+b)*c":                    "(a + b) * c",
		"a+b+(c)":                    "a + b + c",
		"a+(b+c)":                    "a + (b + c)",
		"(a-b)+c":                    "(a - b) + c",
		"((a is b) as C) and d":      "((a is b) as C) and d",
		"(-a)+not b":                 "-a + not b",
		"-(-a)":                      "--a",
		"-(a+b)":                     "-(a + b)",
		"(-a).b":                     "(-a).b",
		"(consume a).b; consume a.b": "(consume a).b\nconsume a.b",
		"(a as B).c":                 "(a as B).c",
		"not a as B":                 "not a as B",
		"not (a as B)":               "not (a as B)",
		"a;b":                        "a\nb",
		"x=(a;b)":                    "x = (a; b)",
		"x=(y=z)":                    "x = y = z",
		"(x=y)+z":                    "(x = y) + z",
		"f((return),(x=1),(a;b))":    "f((return), x = 1, (a; b))",
		"(return,x=1,(a;b))":         "(return, x = 1, (a; b))",
		"x=(return a)":               "x = (return a)",
		"return (break)":             "return (break)",
		"[as T:a;return;b=c]":        "[as T: a; return; b = c]",
		"[as T:]":                    "[as T:]",
		"(let x:T).y; (let x:T)[U]; (let x:T)(y)~z":          "(let x: T).y\n(let x: T)[U]\nlet x: T(y)~z",
		"f(a where b=1,c=2)?":                                "f(a where b = 1, c = 2)?",
		"f(where b=(c=d))":                                   "f(where b = (c = d))",
		"f[A,B](a,b).>g().h~i":                               "f[A, B](a, b).>g().h~i",
		"if a then b else c end":                             "if a then\n  b\nelse\n  c\nend",
		"if a then b elseif c then d else (e;f) end":         "if a then\n  b\nelseif c then\n  d\nelse\n  e\n  f\nend",
		"if a then b else if c then d end end":               "if a then\n  b\nelseif c then\n  d\nend",
		"if (a;b) then c end":                                "if (a; b) then\n  c\nend",
		"if x=a then return end":                             "if x = a then\n  return\nend",
		"ifdef (a and b) then c else ifdef d then e end end": "ifdef a and b then\n  c\nelse\n  ifdef d then\n    e\n  end\nend",
		"while a do b;c else d end":                          "while a do\n  b\n  c\nelse\n  d\nend",
		"repeat a until b end":                               "repeat\n  a\nuntil b\nend",
		"for x:T in a do b else c end":                       "for x: T in a do\n  b\nelse\n  c\nend",
		"with x:T=(a;b) do c end":                            "with x: T = (a; b) do\n  c\nend",
		"match a|b=>c|d if e=>(f;g) else h end":              "match a\n| b =>\n  c\n| d if e =>\n  f\n  g\nelse\n  h\nend",
		"match (a;b)|(c;d) if (x=y)=>e end":                  "match (a; b)\n| (c; d) if (x = y) =>\n  e\nend",
		"try a else b then c end":                            "try\n  a\nelse\n  b\nthen\n  c\nend",
		"try a then c end":                                   "try\n  a\nthen\n  c\nend",
		"recover iso a end":                                  "recover iso\n  a\nend",
		"recover a end.b":                                    "recover\n  a\nend.b",
		"object val is T let x:U=1 fun f()=>a end":           "object val is T\n  let x: U = 1\n  fun f() =>\n    a\nend",
		"object end":                                         "object\nend",
		"{(x:T=1)(y:U=a):V?=>b}val":                          "{(x: T = 1)(y: U = a): V ? => b } val",
		"{()=>a;b}iso":                                       "{() =>\n  a\n  b\n} iso",
		"{()=>{()=>a}}":                                      "{() => {() => a } }",
		"{()=>{()=>a;b}}":                                    "{() =>\n  {() =>\n    a\n    b\n  }\n}",
		"{(x:T=if a then b end)=>c}":                         "{(x: T = if a then\n  b\nend) => c }",
		"f(if a then b end,c)":                               "f(if a then\n  b\nend, c)",
		"x=(a;if b then c end)+d":                            "x = (a; if b then\n  c\nend) + d",
		"while if a then b end do c end":                     "while if a then\n  b\nend do\n  c\nend",
		"if a then if b then c end end":                      "if a then\n  if b then\n    c\n  end\nend",
		"0xF; 1_0.50E2; \"a\\x41\\n\"; \"\"\"b\"\"\"; 'a'":   "15\n10.50e2\n\"aA\\n\"\n\"b\"\n97",
		"var x:T=this; true; break; error":                   "var x: T = this\ntrue\nbreak\nerror",
	} {
		n, at, e := parser.Expr(text)
		if e != api.OK {
			t.Errorf("%s: error %d at %d", text, e, at)
			continue
		}
		if s, e := format.Text(n); e != api.OK || s != want {
			t.Errorf("%s: %q, error %d; want %q", text, s, e, want)
		}
	}
}

// TestTypes is P4.1 for types.
func TestTypes(t *testing.T) {
	for text, want := range map[string]string{
		"A|B":                 "(A | B)",
		"(A&(B|C))&D":         "((A & (B | C)) & D)",
		"(A,(B,C)|D)":         "(A, ((B, C) | D))",
		"(this->A!)->B->C":    "(this->A!)->B->C",
		"(A->B)|C":            "(A->B | C)",
		"p.A[B,C iso^]#read!": "p.A[B, C iso^] #read!",
		"{(A,B|C,):D}":        "",
		"{(A,(B|C)):D?}val^":  "{(A, (B | C)): D ?} val^",
		"{()}":                "{()}",
		"{()?}!":              "{() ?}!",
	} {
		n, _, e := parser.Type(text)
		if want == "" {
			continue
		}
		s, e2 := format.Text(n)
		if e != api.OK || e2 != api.OK || s != want {
			t.Errorf("%s: %q, errors %d, %d; want %q", text, s, e, e2, want)
		}
	}
}

// TestModules is P4.1 for modules.
func TestModules(t *testing.T) {
	for text, want := range map[string]string{
		"":                             "",
		"use\"a/b\"use \"c\" if not x": "use \"a/b\"\nuse \"c\" if not x\n",
		"type A[B:C,D]is(B|D)":         "type A[B: C, D] is (B | D)\n",
		"class iso C is T var x:U let y:V=(a;b) new f() fun ref g[A](x:U=1,y:V):W? be h()=>a;b\nactor D": "class iso C is T\n  var x: U\n  let y: V = (a; b)\n  new f()\n  fun ref g[A](x: U = 1, y: V): W ?\n  be h() =>\n    a\n    b\nactor D\n",
		"class C let x:T=if a then b end fun f()?=>1":                                                    "class C\n  let x: T = if a then\n    b\n  end\n  fun f() ? =>\n    1\n",
	} {
		s, at, e := format.Module(text)
		if e != api.OK || at != 0 || s != want {
			t.Errorf("%s: %q, error %d at %d; want %q", text, s, e, at, want)
		}
	}
	if s, at, e := format.Module("class C\n  fun f( => 1"); s != "" || at != 17 || e != parser.ErrToken {
		t.Errorf("a wrong module: %q, error %d at %d", s, e, at)
	}
	large := "class C fun f() => " + strings.Repeat("x;", 3900) + "x"
	if s, at, e := format.Module(large); s != "" || at != 0 || e != api.ErrLarge {
		t.Errorf("a large module: error %d at %d", e, at)
	}
}

// TestErrors is P4.1 for trees that have no text.
func TestErrors(t *testing.T) {
	for text, want := range map[string]api.Errno{
		`(Word "x")`:                     api.ErrArg,
		`(Nothing)`:                      api.ErrArg,
		`(Bounds)`:                       api.ErrArg,
		`(Params)`:                       api.ErrArg,
		`(Named "x" (This))`:             api.ErrArg,
		`(Case (This) (Nothing) (This))`: api.ErrArg,
		`(Field "x" (Word "var") (ThisType) (Nothing))`:                   api.ErrArg,
		`(Entity "C" (Word "class") (Word) (Bounds) (Nothing))`:           api.ErrArg,
		`(Capture "x" (ThisType) (Array (ThisType) (Seq (This) (This))))`: api.ErrArg,
		`(Array (ThisType) (Seq (This) (This)))`:                          api.ErrForm,
		`(Consume (Array (ThisType) (This) (Seq (This) (This))))`:         api.ErrForm,
		`(Object (Word) (Nothing) (Method "f" (Word "fun") (Word) (Bounds) (Params) (Nothing) (Word) (Nothing)) (Field "x" (Word "var") (ThisType) (Nothing)))`:                                      api.ErrForm,
		`(Module (Entity "C" (Word "class") (Word) (Bounds) (Nothing) (Method "f" (Word "fun") (Word) (Bounds) (Params) (Nothing) (Word) (Nothing)) (Field "x" (Word "var") (ThisType) (Nothing))))`: api.ErrForm,
		`(Array (ThisType) (Tuple (Seq (This) (This)) (This)))`: api.OK,
	} {
		n, e := syntax.Parse(text)
		if e != api.OK {
			t.Fatalf("%s: error %d", text, e)
		}
		s, e := format.Text(n)
		if e != want || (s != "") != (want == api.OK) || format.Parses(n) != (want == api.OK) {
			t.Errorf("%s: %q, error %d; want %d", text, s, e, want)
		}
	}
	seq := api.Node{Kind: syntax.Seq, Kids: []api.Node{{Kind: syntax.This}}}
	if _, e := format.Text(seq); e != api.ErrForm || format.Parses(seq) {
		t.Errorf("a tree that is not well-formed: error %d", e)
	}
	if _, e := format.Text(api.Node{Kind: syntax.Params, Kids: []api.Node{{}}}); e != api.ErrForm {
		t.Errorf("an ill-formed tree of a wrong kind: error %d", e)
	}
	long := api.Node{Kind: syntax.StringLit, Text: strings.Repeat("x", api.MaxSource-2)}
	if s, e := format.Text(long); e != api.OK || len(s) != api.MaxSource {
		t.Errorf("the longest text: error %d", e)
	}
	for _, n := range []api.Node{{Kind: syntax.StringLit, Text: long.Text + "x"}, {Kind: syntax.Dot, Text: "x", Kids: []api.Node{long}}} {
		if s, e := format.Text(n); e != api.ErrLarge || s != "" || !format.Parses(n) {
			t.Errorf("a text that is too long: error %d", e)
		}
	}
	bad := api.Node{Kind: syntax.Array, Kids: []api.Node{{Kind: syntax.ThisType}, long, {Kind: syntax.Seq, Kids: []api.Node{{Kind: syntax.This}, {Kind: syntax.This}}}}}
	if _, e := format.Text(bad); e != api.ErrForm {
		t.Errorf("a long tree without a text: error %d", e)
	}
}

// TestThereAndBack is P4.2 and P4.3 for the canonical texts of many trees, and the form of P4.4.
func TestThereAndBack(t *testing.T) {
	for seed := range uint64(1500) {
		m := sample.New(seed)
		m.Canonical = true
		for _, x := range []struct {
			tree  api.Node
			parse func(string) (api.Node, int, api.Errno)
		}{{m.Expr(40), parser.Expr}, {m.Type(12), parser.Type}, {m.Module(60), parser.Parse}} {
			text, e := format.Text(x.tree)
			if e == api.ErrLarge {
				continue
			}
			got, at, e2 := x.parse(text)
			if e != api.OK || e2 != api.OK || !syntax.Equal(got, x.tree) {
				want, _ := syntax.Text(x.tree)
				t.Fatalf("seed %d: %s\nfrom %s\nerrors %d, %d at %d", seed, text, want, e, e2, at)
			}
			checkForm(t, text)
			if x.tree.Kind != syntax.Module {
				continue
			}
			if again, _, e := format.Module(text); e != api.OK || again != text {
				t.Fatalf("seed %d: %s\nbecame %s", seed, text, again)
			}
			checkTokens(t, text)
		}
	}
}

func checkForm(t *testing.T, text string) {
	t.Helper()
	for _, line := range strings.Split(text, "\n") {
		if strings.TrimRight(line, " \t\r") != line || (len(line)-len(strings.TrimLeft(line, " ")))%2 != 0 {
			t.Fatalf("the line %q of\n%s", line, text)
		}
	}
}

// kept returns the tokens of a text but for brackets and `;`.
func kept(text string) []string {
	l, _, _ := token.Scan(text)
	var out []string
	for _, x := range l {
		if x.Kind != token.Symbol || !strings.Contains("();", x.Text) {
			out = append(out, x.Text)
		}
	}
	return out
}

// checkTokens is the last part of P4.4, with brackets around all literals and `;` between all lines of bodies.
func checkTokens(t *testing.T, text string) {
	t.Helper()
	l, _, _ := token.Scan(text)
	out := ""
	for _, x := range l {
		s, _ := token.Text([]token.Token{{Kind: x.Kind, Text: x.Text, Line: true}})
		if x.Kind == token.Int {
			s = "((" + s + "))"
		}
		if x.Line {
			s = "\n\t" + s
		}
		out += " /* */ " + s
	}
	again, at, e := format.Module(out)
	if e != api.OK || !slices.Equal(kept(again), kept(text)) {
		t.Fatalf("%s\nfrom %s\nerror %d at %d", again, out, e, at)
	}
}
