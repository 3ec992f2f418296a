package sugar_test

import (
	"slices"
	"strings"
	"testing"

	"hackamore/api"
	"hackamore/format"
	"hackamore/parser"
	"hackamore/sample"
	"hackamore/sugar"
	"hackamore/syntax"
)

func parse(t *testing.T, text string) api.Node {
	t.Helper()
	n, at, e := parser.Parse(text)
	if e != api.OK {
		t.Fatalf("%s\nerror %d at %d: %s", text, e, at, text[at:])
	}
	return n
}

// plain returns the canonical text of a module's plain tree.
func plain(t *testing.T, text string) string {
	t.Helper()
	n := parse(t, text)
	p, path, e := sugar.Module(n, []string{"linux"})
	if e != api.OK {
		t.Fatalf("%s\nerror %d at %v", text, e, path)
	}
	if !sugar.IsPlain(p) {
		t.Fatalf("%s\nis not plain", text)
	}
	s, e := format.Text(p)
	if e != api.OK {
		t.Fatalf("%s\nText: error %d", text, e)
	}
	return s
}

const head = "class C[A]\n  var n: U32\n  let g: C\n  new create(n: U32) => n\n  new other()\n  fun m(a: U32, b: U32 = a + n, c: U32 = q(3)): U32 => a\n  fun k[B](a: A = 1): B ? => a\n  be z(a: A)\n  fun f(x: U32, c: C) =>\n    "

// behind returns the plain text of a body in a class, and of what is made of it, without the head.
func behind(t *testing.T, body string) string {
	t.Helper()
	s := plain(t, head+body)
	_, s, _ = strings.Cut(s, "fun f(x: U32, c: C) =>\n    ")
	return strings.TrimSuffix(strings.ReplaceAll(s, "\n    ", "\n"), "\n")
}

// check holds bodies against their plain texts.
func check(t *testing.T, cases map[string]string) {
	t.Helper()
	for body, want := range cases {
		if got := behind(t, body); got != want {
			t.Errorf("%s:\n%s\nwant:\n%s", body, got, want)
		}
	}
}

// TestFields is rule 1.
func TestFields(t *testing.T) {
	for text, want := range map[string]string{
		"class C\n  var a: T = 1 + b\n  let b: U\n  new create(b: U) => x\n  fun f() => a\n  new other()": "class C\n  var a: T\n  let b: U\n  new create(b: U) =>\n    this.a = 1.add(this.b)\n    x\n  fun f() =>\n    this.a\n  new other() =>\n    this.a = 1.add(this.b)\n    this\n",
		"class C\n  var a: T = 1\n  let b: U = (c; d)\n  fun f() => a":                                    "class C\n  var a: T\n  let b: U\n  new create() =>\n    this.a = 1\n    this.b = (c; d)\n    this\n  fun f() =>\n    this.a\n",
		"class C\n  new create() => (a; b)":                                                               "class C\n  new create() =>\n    a\n    b\n",
		"class C\n  var a: T = 1\n  new create() => (b; c)":                                               "class C\n  var a: T\n  new create() =>\n    this.a = 1\n    b\n    c\n",
		"class C":                                     "class C\n  new create() =>\n    this\n",
		"actor C\n  be f()":                           "actor C\n  new create() =>\n    this\n  be f()\n",
		"class C\n  var a: T\n  var b: U = x(1)":      "class C\n  var a: T\n  var b: U\n",
		"primitive C\n  fun f() => 1":                 "primitive C\n  fun f() =>\n    1\n",
		"trait C\n  var a: T = (b as U)":              "trait C\n  var a: T\n",
		"primitive C\n  var a: T = b\n  new create()": "primitive C\n  var a: T\n  new create() =>\n    this.a = b\n    this\n",
		"class C\n  new create()\n":                   "class C\n  new create()\n",
		"class C\n  var a: T = (let b: T = c; b)\n  new x(a: U = 2, b: V)": "class C\n  var a: T\n  new x(a: U, b: V) =>\n    this.a = (let b: T = c; b)\n    this\n",
	} {
		if got := plain(t, text); got != want {
			t.Errorf("%s:\n%s\nwant:\n%s", text, got, want)
		}
	}
	late := parse(t, "class C\n  var a: {()} = {() => 1 }\n  fun f(x: {()})")
	late.Kids[0].Kids[4], late.Kids[0].Kids[5] = late.Kids[0].Kids[5], late.Kids[0].Kids[4]
	p, _, e := sugar.Module(late, nil)
	s, _ := format.Text(p)
	if want := "class C\n  var a: _O3\n  new create() =>\n    this.a = _O1.create()\n    this\n  fun f(x: _O2)\n"; e != api.OK || !strings.HasPrefix(s, want) {
		t.Errorf("a field behind a method: %s, error %d", s, e)
	}
}

// TestCalls is rules 2 to 4.
func TestCalls(t *testing.T) {
	check(t, map[string]string{
		"C(1)":                    "C.create(1)",
		"C[A](1)?":                "C[A].create(1)?",
		"_Foo(1); _9x(1)":         "_Foo.create(1)\nthis._9x(1)",
		"x(1)?":                   "x.apply(1)?",
		"n(1)":                    "this.n.apply(1)",
		"h(1, x)":                 "this.h(1, x)",
		"(x; n)(1)":               "(x; this.n).apply(1)",
		"this(1); 1(2)":           "this.apply(1)\n1.apply(2)",
		"x.a.b(1)(2)":             "x.a.b(1).apply(2)",
		"x.a[U](1)":               "x.a[U](1)",
		"m[U](1)":                 "this.m[U](1)",
		"x[U](1)":                 "x[U].apply(1)",
		"n[U](1)":                 "this.n[U].apply(1)",
		"m[U]; x[U]; n[U]; C[U]":  "this.m[U]\nx[U]\nthis.n[U]\nC[U]",
		"x.y[U][V](1)":            "x.y[U][V].apply(1)",
		"m(x)":                    "this.m(x, a.add(n), this.q(3))",
		"this.m(n)":               "this.m(this.n, a.add(n), this.q(3))",
		"m(where c = n, a = x)":   "this.m(x, a.add(n), this.n)",
		"m(1, 2, 3)":              "this.m(1, 2, 3)",
		"m(1 where c = 2)?":       "this.m(1, a.add(n), 2)?",
		"C.k()":                   "C.k(1)",
		"C.other()":               "C.other()",
		"D.k()":                   "D.k()",
		"c.m(1)":                  "c.m(1)",
		"C[U].m(1)":               "C[U].m(1)",
		"x; n; nn; C; this.n":     "x\nthis.n\nnn\nC\nthis.n",
		"let n: T = n; n":         "let n: T = this.n\nn",
		"let m: T = 1; m(2)":      "let m: T = 1\nm.apply(2)",
		"let m: T = 1; this.m(2)": "let m: T = 1\nthis.m(2, a.add(n), this.q(3))",
		"if let n: T = x then n elseif n then n else n end; n":     "if let n: T = x then\n  n\nelseif n then\n  n\nelse\n  n\nend\nthis.n",
		"if x then let n: T = 1; n else n end; n":                  "if x then\n  let n: T = 1\n  n\nelse\n  this.n\nend\nthis.n",
		"while (let n: T = x; n) do n else n end; n":               "while (let n: T = x; n) do\n  n\nelse\n  n\nend\nthis.n",
		"while x do let n: T = 1 else n end":                       "while x do\n  let n: T = 1\nelse\n  this.n\nend",
		"try let n: T = 1 else n then n end":                       "try\n  let n: T = 1\nelse\n  this.n\nthen\n  this.n\nend",
		"recover let n: T = 1; n end; n":                           "recover\n  let n: T = 1\n  n\nend\nthis.n",
		"(let n: T = 1, n); n":                                     "(let n: T = 1, n)\nn",
		"ifdef linux then let n: T = 1 end; n":                     "let n: T = 1\nn",
		"match let n: T = 1 | let y: U if n => n; y else n end; n": "match let n: T = 1\n| let y: U if n =>\n  n\n  y\nelse\n  n\nend\nthis.n",
		"match x | let n: U if n => n | let y: U => n else n end":  "match x\n| let n: U if n =>\n  n\n| let y: U =>\n  this.n\nelse\n  this.n\nend",
	})
}

// TestOperators is rules 5 and 7.
func TestOperators(t *testing.T) {
	check(t, map[string]string{
		"(x + n) - 1":   "x.add(this.n).sub(1)",
		"x * n":         "x.mul(this.n)",
		"-x":            "x.neg()",
		"not (x and n)": "if x then\n  this.n\nelse\n  false\nend.op_not()",
		"x or n":        "if x then\n  true\nelse\n  this.n\nend",
		"x is n":        "x is this.n",
		"x isnt n":      "x isnt this.n",
		"this.m + x":    "this.m.add(x)",
		"x as (U | V)":  "match x\n| let _1: (U | V) =>\n  consume _1\nelse\n  error\nend",
	})
	for op, method := range map[string]string{"+": "add", "-": "sub", "*": "mul", "/": "div", "%": "rem", "<<": "shl", ">>": "shr", "==": "eq", "!=": "ne", "<": "lt", "<=": "le", ">": "gt", ">=": "ge", "xor": "op_xor"} {
		check(t, map[string]string{"x " + op + " n": "x." + method + "(this.n)"})
		if strings.Contains("+-*/%", op) {
			check(t, map[string]string{"x " + op + "? n": "x." + method + "_partial(this.n)?"})
		}
	}
}

// TestAssigns is rule 6.
func TestAssigns(t *testing.T) {
	check(t, map[string]string{
		"x = n = 1":                   "x = this.n = 1",
		"x.n = n":                     "x.n = this.n",
		"X = 1":                       "X = 1",
		"x(1, n)? = n":                "x.update(1, this.n, this.n)",
		"x()? = 2":                    "x.update(2)",
		"x.y(1)? = 2":                 "x.y.update(1, 2)",
		"x.y()?.z()? = 2":             "x.y()?.z.update(2)",
		"x(1)?(2)? = 3":               "x.apply(1)?.update(2, 3)",
		"n(1) = 2":                    "this.n.update(1, 2)",
		"h(1) = 2":                    "h.update(1, 2)",
		"D(1) = 2":                    "D.update(1, 2)",
		"x.y(1) = 2":                  "x.y.update(1, 2)",
		"m[U](1) = 2":                 "this.m[U].update(1, 2)",
		"C[U]() = 2":                  "C[U].update(2)",
		"(let p: U, var q: V) = n; p": "let _1: (U, V) = this.n\nlet p: U = _1._1\nvar q: V = _1._2\n_1\np",
		"(let n: U, (let q: V, let r: W)) = (n, 1)": "let _1: (U, (V, W)) = (this.n, 1)\nlet n: U = _1._1\nlet _2: (V, W) = _1._2\nlet q: V = _2._1\nlet r: W = _2._2\n_2\n_1",
		"x = ((let p: U, let q: V) = n)":            "x = (let _1: (U, V) = this.n; let p: U = _1._1; let q: V = _1._2; _1)",
		"(let p: {()}, let q: V) = {() => 1 }":      "let _1: (_O1[A], V) = _O3[A].create()\nlet p: _O2[A] = _1._1\nlet q: V = _1._2\n_1\ninterface _O1[A]\n  fun apply()\ninterface _O2[A]\n  fun apply()\nclass _O3[A]\n  new create() =>\nthis\n  fun apply() =>\n1",
	})
}

// TestLoops is rules 8 to 11.
func TestLoops(t *testing.T) {
	check(t, map[string]string{
		"[as U: x; n]":                              "let _1: Array[U] ref = Array[U].create()\n_1.push(x)\n_1.push(this.n)\nconsume _1",
		"x = [as U:]":                               "x = (let _1: Array[U] ref = Array[U].create(); consume _1)",
		"repeat let n: U = 1; n until n end":        "var _1: Bool = true\nwhile if _1 then\n  _1 = false\n  true\nelse\n  this.n.op_not()\nend do\n  let n: U = 1\n  n\nend",
		"for n: U in n do n else n end; n":          "let _1: Iterator[U] ref = this.n\nwhile _1.has_next() do\n  let n: U = try\n    _1.next()?\n  else\n    break\n  end\n  n\nelse\n  this.n\nend\nthis.n",
		"for y: U in (let n: V = x; n) do n end; n": "let _1: Iterator[U] ref = (let n: V = x; n)\nwhile _1.has_next() do\n  let y: U = try\n    _1.next()?\n  else\n    break\n  end\n  n\nend\nthis.n",
		"with n: U = n do let x: V = n end; n; x":   "let n: U = this.n\ntry\n  let x: V = n\nelse\n  error\nthen\n  n.dispose()\nend\nn\nx",
		"for a: U in (for b: V in x do 1 end) do for c: W in x do 2 end end": "let _1: Iterator[U] ref = (let _2: Iterator[V] ref = x; while _2.has_next() do\n  let b: V = try\n    _2.next()?\n  else\n    break\n  end\n  1\nend)\nwhile _1.has_next() do\n  let a: U = try\n    _1.next()?\n  else\n    break\n  end\n  let _3: Iterator[W] ref = x\n  while _3.has_next() do\n    let c: W = try\n      _3.next()?\n    else\n      break\n    end\n    2\n  end\nend",
		"ifdef linux then 1; n else {() => 2 } end":                          "1\nthis.n",
		"ifdef windows then 1 else n end":                                    "this.n",
		"(ifdef linux then q end)[U]":                                        "q[U]",
		"(ifdef linux then q end)[U](1)":                                     "q[U].apply(1)",
		"(ifdef windows then 1 else q end)(1)":                               "q.apply(1)",
		"(ifdef linux then n end)[U]":                                        "this.n[U]",
		"(ifdef linux then q[U] end)(1)":                                     "this.q[U].apply(1)",
		"ifdef not (linux and true) then 1 end":                              "None",
		"ifdef (windows or false) or linux then 1 end":                       "1",
		"x = ifdef windows or not linux then 1 else 2; 3 end":                "x = (2; 3)",
	})
}

// TestMatches is rule 12.
func TestMatches(t *testing.T) {
	check(t, map[string]string{
		"match n | let _: U => 1 | U if x => 2 | C[V, W] => 3 else n end":                 "match this.n\n| let _: U =>\n  1\n| let _1: U if x =>\n  2\n| let _2: C[V, W] =>\n  3\nelse\n  this.n\nend",
		"match n | (let n: U, var q: V) => n | (let p: U, let n: V) if n => n else n end": "match this.n\n| let _1: (U, V) =>\n  let n: U = _1._1\n  var q: V = _1._2\n  n\n| let _2: (U, V) if (let p: U = _2._1; let n: V = _2._2; n) =>\n  let p: U = _2._1\n  let n: V = _2._2\n  n\nelse\n  this.n\nend",
		"match n | ((let p: U, let q: V), let r: W) if x => 1; 2 end":                     "match this.n\n| let _1: ((U, V), W) if (let _2: (U, V) = _1._1; let p: U = _2._1; let q: V = _2._2; _2; let r: W = _1._2; x) =>\n  let _3: (U, V) = _1._1\n  let p: U = _3._1\n  let q: V = _3._2\n  _3\n  let r: W = _1._2\n  1\n  2\nend",
	})
}

// TestChains is rules 13 and 14.
func TestChains(t *testing.T) {
	check(t, map[string]string{
		"x.>h(n)":                 "x.h(this.n)\nx",
		"x.>a(1)?.>b(2)":          "x.a(1)?\nx.b(2)\nx",
		"this.>m(1)":              "this.m(1, a.add(n), this.q(3))\nthis",
		"this.>h(1).>m(2)":        "this.h(1)\nthis.m(2, a.add(n), this.q(3))\nthis",
		"c = x.>a(1)":             "c = (x.a(1); x)",
		"this~m(n)":               "_O1[A].create(this, this.n)\nclass _O1[A]\n  let _this: C[A] box\n  let _1: U32\n  new create(_this: C[A] box, _1: U32) =>\nthis._this = _this\nthis._1 = _1\nthis\n  fun apply(b: U32, c: U32): U32 =>\nthis._this.m(this._1, b, c)",
		"C~m(where c = 1, a = n)": "_O1[A].create(1, this.n)\nclass _O1[A]\n  let _1: U32\n  let _2: U32\n  new create(_1: U32, _2: U32) =>\nthis._1 = _1\nthis._2 = _2\nthis\n  fun apply(b: U32): U32 =>\nC.m(this._2, b, this._1)",
		"this~k()?":               "_O1[A].create(this)\nclass _O1[A]\n  let _this: C[A] box\n  new create(_this: C[A] box) =>\nthis._this = _this\nthis\n  fun apply(a: A): B ? =>\nthis._this.k(a)",
		"this~z()":                "_O1[A].create(this)\nclass _O1[A]\n  let _this: C[A] tag\n  new create(_this: C[A] tag) =>\nthis._this = _this\nthis\n  fun apply(a: A) =>\nthis._this.z(a)",
	})
}

// TestLiterals is rule 15.
func TestLiterals(t *testing.T) {
	check(t, map[string]string{
		"object end": "_O1[A].create()\nclass _O1[A]\n  new create() =>\nthis",
		"object val is T\n let p: U = x + p + n\n var q: V\n fun n() => q + c + p\n fun r(x: U = 2) => x + n() + this.r()\n end": "recover val\n  _O1[A].create(x, c)\nend\nclass _O1[A] is T\n  let x: U32\n  let c: C\n  let p: U\n  var q: V\n  new create(x: U32, c: C) =>\nthis.x = x\nthis.c = c\nthis.p = x.add(this.p).add(n)\nthis\n  fun n() =>\nthis.q.add(this.c).add(this.p)\n  fun r(x: U) =>\nx.add(this.n()).add(this.r(2))",
		"object iso be f() => x end":     "_O1[A].create(x)\nactor _O1[A]\n  let x: U32\n  new create(x: U32) =>\nthis.x = x\nthis\n  be f() =>\nthis.x",
		"object ref fun f() => m(1) end": "_O1[A].create()\nclass _O1[A]\n  new create() =>\nthis\n  fun f() =>\nthis.m(1)",
		"let y: U = 1; if x then let w: V = 2 end; object fun f(x: W) => x + y + w; let y: V = 3; y end":    "let y: U = 1\nif x then\n  let w: V = 2\nend\n_O1[A].create(y)\nclass _O1[A]\n  let y: U\n  new create(y: U) =>\nthis.y = y\nthis\n  fun f(x: W) =>\nx.add(this.y).add(w)\nlet y: V = 3\ny",
		"object let a: U = object let b: U = x fun f() => x + c end fun g() => object fun f() => c end end": "_O1[A].create(x, c)\nclass _O1[A]\n  let x: U32\n  let c: C\n  let a: U\n  new create(x: U32, c: C) =>\nthis.x = x\nthis.c = c\nthis.a = _O2[A].create(x, c)\nthis\n  fun g() =>\n_O3[A].create(this.c)\nclass _O2[A]\n  let x: U32\n  let c: C\n  let b: U\n  new create(x: U32, c: C) =>\nthis.x = x\nthis.c = c\nthis.b = x\nthis\n  fun f() =>\nthis.x.add(this.c)\nclass _O3[A]\n  let c: C\n  new create(c: C) =>\nthis.c = c\nthis\n  fun f() =>\nthis.c",
		"object fun f() => x = 1; x(2) = 3; consume x end":                                                  "_O1[A].create(x)\nclass _O1[A]\n  let x: U32\n  new create(x: U32) =>\nthis.x = x\nthis\n  fun f() =>\nthis.x = 1\nthis.x.update(2, 3)\nconsume this.x",
	})
	got := plain(t, "class C[A: B]\n  fun f[D](x: {(D)}) => object fun g[E]() => {(y: U) => x } end")
	want := "class C[A: B]\n  new create() =>\n    this\n  fun f[D](x: _O1[A, D]) =>\n    _O2[A, D].create(x)\ninterface _O1[A: B, D]\n  fun apply(_a1: D)\nclass _O2[A: B, D]\n  let x: _O6[A, D]\n  new create(x: _O7[A, D]) =>\n    this.x = x\n    this\n  fun g[E]() =>\n    _O3[A, D, E].create(this.x)\nclass _O3[A: B, D, E]\n  let x: _O4[A, D, E]\n  new create(x: _O5[A, D, E]) =>\n    this.x = x\n    this\n  fun apply(y: U) =>\n    this.x\ninterface _O4[A: B, D, E]\n  fun apply(_a1: D)\ninterface _O5[A: B, D, E]\n  fun apply(_a1: D)\ninterface _O6[A: B, D]\n  fun apply(_a1: D)\ninterface _O7[A: B, D]\n  fun apply(_a1: D)\n"
	if got != want {
		t.Errorf("bounds of literals:\n%s\nwant:\n%s", got, want)
	}
}

// TestLambdas is rules 16 and 17.
func TestLambdas(t *testing.T) {
	check(t, map[string]string{
		"{() => 1 }": "_O1[A].create()\nclass _O1[A]\n  new create() =>\nthis\n  fun apply() =>\n1",
		"{(y: U = 1)(x: V = n, p: W = x): U ? => x + c + apply(); p } val": "recover val\n  _O1[A].create(this.n, x, c)\nend\nclass _O1[A]\n  let x: V\n  let p: W\n  let c: C\n  new create(x: V, p: W, c: C) =>\nthis.x = x\nthis.p = p\nthis.c = c\nthis\n  fun val apply(y: U): U ? =>\nthis.x.add(this.c).add(this.apply(1))\nthis.p",
		"{(y: U) => y } ref":                        "_O1[A].create()\nclass _O1[A]\n  new create() =>\nthis\n  fun apply(y: U) =>\ny",
		"{(y: {()}): {(): {()}} => {() => y } }":    "_O1[A].create()\nclass _O1[A]\n  new create() =>\nthis\n  fun apply(y: _O2[A]): _O3[A] =>\n_O5[A].create(y)\ninterface _O2[A]\n  fun apply()\ninterface _O3[A]\n  fun apply(): _O4[A]\ninterface _O4[A]\n  fun apply()\nclass _O5[A]\n  let y: _O6[A]\n  new create(y: _O7[A]) =>\nthis.y = y\nthis\n  fun apply() =>\nthis.y\ninterface _O6[A]\n  fun apply()\ninterface _O7[A]\n  fun apply()",
		"{()(p: {()} = {() => 1 }) => {() => 2 } }": "_O1[A].create(_O5[A].create())\nclass _O1[A]\n  let p: _O3[A]\n  new create(p: _O4[A]) =>\nthis.p = p\nthis\n  fun apply() =>\n_O2[A].create()\nclass _O2[A]\n  new create() =>\nthis\n  fun apply() =>\n2\ninterface _O3[A]\n  fun apply()\ninterface _O4[A]\n  fun apply()\nclass _O5[A]\n  new create() =>\nthis\n  fun apply() =>\n1",
	})
	got := plain(t, "interface I[A: {(A)} val, B: {(B): {()}}] is {(B): A ?} iso^\n  fun f[D: {(D)}](): {(A, D)} box!\ntype T[A] is {(A)}")
	want := "interface I[A: _O1[A, B] val, B: _O2[A, B]] is _O4[A, B] iso^\n  fun f[D: _O5[A, B, D]](): _O6[A, B, D] box!\n" +
		"interface _O1[A: _O1[A, B] val, B: _O2[A, B]]\n  fun val apply(_a1: A)\ninterface _O2[A: _O1[A, B] val, B: _O2[A, B]]\n  fun apply(_a1: B): _O3[A, B]\ninterface _O3[A: _O1[A, B] val, B: _O2[A, B]]\n  fun apply()\n" +
		"interface _O4[A: _O1[A, B] val, B: _O2[A, B]]\n  fun apply(_a1: B): A ?\ninterface _O5[A: _O1[A, B] val, B: _O2[A, B], D: _O5[A, B, D]]\n  fun apply(_a1: D)\ninterface _O6[A: _O1[A, B] val, B: _O2[A, B], D: _O5[A, B, D]]\n  fun apply(_a1: A, _a2: D)\n" +
		"type T[A] is _O7[A]\ninterface _O7[A]\n  fun apply(_a1: A)\n"
	if got != want {
		t.Errorf("types of functions:\n%s\nwant:\n%s", got, want)
	}
}

// TestFresh is P5.3: names that occur as a Text are passed over.
func TestFresh(t *testing.T) {
	check(t, map[string]string{
		"x._1; \"_3\"; _O1(x); x as U; x as V; object end": "x._1\n\"_3\"\n_O1.create(x)\nmatch x\n| let _2: U =>\n  consume _2\nelse\n  error\nend\nmatch x\n| let _4: V =>\n  consume _4\nelse\n  error\nend\n_O2[A].create()\nclass _O2[A]\n  new create() =>\nthis",
	})
}

// TestErrors is P5.1: the first error, and the path of its node.
func TestErrors(t *testing.T) {
	at := func(rest ...int) []int { return append([]int{0, 11, 6}, rest...) }
	for _, x := range []struct {
		body string
		code api.Errno
		path []int
	}{
		{"m()", sugar.ErrArgs, at()}, {"m(1, 2, 3, 4)", sugar.ErrArgs, at()}, {"m(1 where a = 2)", sugar.ErrArgs, at()}, {"m(1 where q = 2)", sugar.ErrArgs, at()}, {"m(where b = 2)", sugar.ErrArgs, at()}, {"m(1 where b = 2, b = 3)", sugar.ErrArgs, at()},
		{"C()", sugar.ErrArgs, at()}, {"C.m()", sugar.ErrArgs, at()}, {"this.m()", sugar.ErrArgs, at()}, {"C(1, 2)", sugar.ErrArgs, at()}, {"C.other(1)", sugar.ErrArgs, at()},
		{"x; c.m(where a = 1)", sugar.ErrArgs, at(1)}, {"m[U](where a = 1)", sugar.ErrArgs, at()}, {"x(x~y where a = 1)", sugar.ErrArgs, at()}, {"x(1 where a = 1) = 2", sugar.ErrArgs, at(0, 3)}, {"x(x~y where a = 1) = 2", sugar.ErrChain, at(0, 2)},
		{"m(1) = 2", sugar.ErrAssign, at()}, {"C(1) = 2", sugar.ErrAssign, at()}, {"C.k(1) = 2", sugar.ErrAssign, at()}, {"(x, c) = 1", sugar.ErrAssign, at()}, {"(let p: U, x) = 1", sugar.ErrAssign, at()}, {"(let p: U, (let q: V, x.y)) = x~z", sugar.ErrAssign, at()}, {"x = m(1) = 2", sugar.ErrAssign, at(1)},
		{"match x | y => 1 end", sugar.ErrPattern, at(2, 0)}, {"match x | 1 => x~y end", sugar.ErrPattern, at(2, 0)}, {"match x | let y: U => 1 | (let y: U, x) => 2 end", sugar.ErrPattern, at(3, 0)}, {"match x | C(1) => 2 end", sugar.ErrPattern, at(2, 0)}, {"match x | x[U] => 2 end", sugar.ErrPattern, at(2, 0)}, {"match x | 1 => 2 else x~y end", sugar.ErrChain, at(1)}, {"match x~y | 1 => 2 end", sugar.ErrChain, at(0)},
		{"x~m", sugar.ErrChain, at()}, {"this~m", sugar.ErrChain, at()}, {"x.>m", sugar.ErrChain, at()}, {"x~m(1)", sugar.ErrChain, at(0)}, {"n.>m(1)", sugar.ErrChain, at(0)}, {"C.>m(1)", sugar.ErrChain, at(0)}, {"x.y.>m(1)", sugar.ErrChain, at(0)}, {"C~other()", sugar.ErrChain, at(0)}, {"this~h()", sugar.ErrChain, at(0)}, {"D~m(1)", sugar.ErrChain, at(0)},
		{"x.>m[U](1)", sugar.ErrChain, at(0, 0)}, {"this~m[U](1)", sugar.ErrChain, at(0, 0)}, {"x.>m(1) = 2", sugar.ErrChain, at(0, 0)}, {"this~m(1) = 2", sugar.ErrChain, at(0, 0)}, {"x.>a(where b = 1)", sugar.ErrArgs, at()}, {"y.>a(1).>b(where c = 1)", sugar.ErrChain, at(0, 0, 0)}, {"x.>a(where b = 1).>b(x~y)", sugar.ErrArgs, at(0, 0)}, {"this.>m()", sugar.ErrArgs, at()},
		{"this~m(1, 2, 3, 4)", sugar.ErrArgs, at()}, {"this~m(1 where a = 2)", sugar.ErrArgs, at()}, {"C~m(where q = 2)", sugar.ErrArgs, at()}, {"this~m(x~y)", sugar.ErrChain, at(2)}, {"this~m(where a = x~y)", sugar.ErrChain, at(2, 0)},
		{"object new f() end", api.ErrForm, at(2)}, {"object let p: U = x~y new f() end", sugar.ErrChain, at(2, 2)}, {"object fun g() => x~y new f() end", sugar.ErrChain, at(2, 6)}, {"object fun f() => x.>g() end", sugar.ErrChain, at(2, 6, 0)},
		{"{()(p: U = x~y) => m() }", sugar.ErrChain, at(5, 1)}, {"{()(p: U = x~y) => z~y }", sugar.ErrChain, at(4)},
		{"ifdef x + y then 1 end", api.ErrForm, at(0)}, {"ifdef (a and -b) or c.d then 1 end", api.ErrForm, at(0, 0, 1)}, {"ifdef a or 1 then 1 end", api.ErrForm, at(0, 1)}, {"ifdef linux then x~y end", sugar.ErrChain, at(1)},
		{"x + (y~z; 1)", sugar.ErrChain, at(1, 0)}, {"for i: U in x~y do z~y end", sugar.ErrChain, at(1)}, {"repeat x~y until y~z end", sugar.ErrChain, at(0)}, {"[as U: 1; x~y]", sugar.ErrChain, at(2)},
	} {
		n := parse(t, head+x.body)
		p, path, e := sugar.Module(n, []string{"linux"})
		if e != x.code || !slices.Equal(path, x.path) || p.Kind != 0 {
			t.Errorf("%s: error %d at %v, want %d at %v", x.body, e, path, x.code, x.path)
		}
	}
	for text, want := range map[string][]int{
		"class C\n  fun g() => this.f()\n  fun f(a: U = x~y)":                              {0, 5, 3, 0, 1},
		"class C\n  var a: U = x~y\n  new c(b: U = x~z) => x~w":                            {0, 4, 2},
		"class C\n  fun f(a: U = object fun g(b: U = 1) => 1 fun h() => x~g() end) => f()": {0, 4, 3, 0, 1, 3, 6, 0},
	} {
		if _, path, e := sugar.Module(parse(t, text), nil); e != sugar.ErrChain || !slices.Equal(path, want) {
			t.Errorf("%s: error %d at %v, want %v", text, e, path, want)
		}
	}
}

// TestArguments is P5.1 for trees that are no modules, and for trees that become too large.
func TestArguments(t *testing.T) {
	for _, n := range []api.Node{{Kind: syntax.Name, Text: "x"}, {Kind: syntax.Word}} {
		if _, path, e := sugar.Module(n, nil); e != api.ErrArg || len(path) > 0 {
			t.Errorf("no module: error %d", e)
		}
		if sugar.IsPlain(n) {
			t.Error("no module is plain")
		}
	}
	bad := api.Node{Kind: syntax.Module, Kids: []api.Node{{Kind: syntax.Name, Text: "x"}}}
	if _, _, e := sugar.Module(bad, nil); e != api.ErrForm || sugar.IsPlain(bad) {
		t.Errorf("a wrong tree: error %d", e)
	}
	if _, _, e := sugar.Module(api.Node{Kind: syntax.Name}, nil); e != api.ErrForm {
		t.Errorf("a wrong tree of another kind: error %d", e)
	}
	many := func(s string, n int) string { return strings.TrimSuffix(strings.Repeat(s+";", n), ";") }
	text := "class C\n  fun m(a: U = (" + many("x", 300) + ")) => 1\n  fun f() => " + many("m()", 12)
	if _, _, e := sugar.Module(parse(t, text), nil); e != api.OK {
		t.Errorf("a large module: error %d", e)
	}
	text += ";" + many("m()", 100)
	if _, path, e := sugar.Module(parse(t, text), nil); e != api.ErrSize || len(path) > 0 {
		t.Errorf("a module that is too large: error %d at %v", e, path)
	}
	if _, path, e := sugar.Module(parse(t, text+"; x~y"), nil); e != sugar.ErrChain || len(path) != 4 {
		t.Errorf("a module that is too large, with an error: error %d at %v", e, path)
	}
	huge := "class C\n  var v: U = (" + many("m()", 400) + ")\n  fun m(a: U = (" + many("x", 1200) + ")) => 1\n" + strings.Repeat("  new a()\n", 100)
	if _, _, e := sugar.Module(parse(t, huge), nil); e != api.ErrSize {
		t.Errorf("a huge module: error %d", e)
	}
	deep := "class C fun f() => " + strings.Repeat("-", 94) + "x"
	if _, _, e := sugar.Module(parse(t, deep), nil); e != api.ErrSize {
		t.Errorf("a module that becomes too deep: error %d", e)
	}
}

// TestIsPlain is P5.1 for IsPlain, by a kind of sugar each.
func TestIsPlain(t *testing.T) {
	if !sugar.IsPlain(parse(t, "use \"p\" if not (a and f(x))\nclass C[A: B] is D\n  var x: U\n  fun f(y: V): W ? => let z: U = x.g[T](1)?; x.y = z; z = 1; (y is 1, y isnt 2); match y | let a: T if 1 => consume a end; while a do break else continue end; try error else return then this end; recover iso C[U] end")) {
		t.Error("a plain module is not plain")
	}
	for _, body := range []string{"x~y", "x.>y()", "x.f(where a = 1)", "[as T:]", "-x", "not x", "x as T", "repeat x until y end", "for i: T in x do y end", "with i: T = x do y end", "ifdef a then b end", "object end", "{() => 1 }", "x + y", "x and y", "f(1)", "C(1)", "C[T](1)", "x.f(1)(2)", "x.f() = 1", "(x, y) = 1", "match x | C => 1 end", "match x | 1 => 1 end", "let x: {()}", "x.f(1 + 2)"} {
		if sugar.IsPlain(parse(t, "class C fun f() => "+body)) {
			t.Errorf("%s is plain", body)
		}
	}
	for _, text := range []string{"class C var x: T = 1", "class C fun f(x: T = 1)", "class C[A: {()}]", "type A is {()}", "class C is {()}"} {
		if sugar.IsPlain(parse(t, text)) {
			t.Errorf("%s is plain", text)
		}
	}
}

// TestPlain is P5.2 and P5.3 for many trees.
func TestPlain(t *testing.T) {
	right := 0
	for seed := range uint64(4000) {
		m := sample.New(seed)
		n := m.Module(20 + int(seed%60))
		before, _ := syntax.Text(n)
		p, path, e := sugar.Module(n, []string{"a", "x"})
		if after, _ := syntax.Text(n); before != after {
			t.Fatalf("seed %d: the tree was changed", seed)
		}
		if e != api.OK {
			if _, none := syntax.At(n, path); none != api.OK {
				t.Fatalf("seed %d: error %d at %v", seed, e, path)
			}
			continue
		}
		if !sugar.IsPlain(p) {
			t.Fatalf("seed %d: %s is not plain", seed, before)
		}
		checkEntities(t, n, p)
		again, _, e := sugar.Module(p, nil)
		if e == sugar.ErrArgs { // a constructor that was put in is known now
			continue
		}
		if e != api.OK || !syntax.Equal(again, p) {
			t.Fatalf("seed %d: a plain tree did not stay, error %d: %s", seed, e, before)
		}
		right++
	}
	if right < 1000 {
		t.Errorf("only %d plain trees stayed as they are", right)
	}
}

func checkEntities(t *testing.T, n, p api.Node) {
	t.Helper()
	own := func(m api.Node) []string {
		var l []string
		for _, k := range m.Kids {
			if !strings.HasPrefix(k.Text, "_O") {
				l = append(l, k.Text)
			}
		}
		return l
	}
	if !slices.Equal(own(n), own(p)) {
		t.Fatalf("the entities %v became %v", own(n), own(p))
	}
}

// TestSame is P5.2 for texts: a plain tree stays, with the fields ahead of the methods.
func TestSame(t *testing.T) {
	texts := []string{head + "this.m(1, 2, 3)", "trait T\n  fun f(x: U) => x.g[A](this)", "type A is B", "actor A\n  new create() => this.f(); A.create()\n  fun f() => let x: T = match x | let y: U => y end", "use \"p\" if not x\nprimitive P"}
	for _, text := range texts {
		once := parse(t, plain(t, text))
		again, _, e := sugar.Module(once, nil)
		if e != api.OK || !syntax.Equal(once, again) {
			t.Errorf("%s: error %d", text, e)
		}
	}
}

// TestLocality is P5.4: another body leaves the other methods, but for fresh names.
func TestLocality(t *testing.T) {
	other := " fun g(x: U) => for i: U in x do m(i); {() => x } end"
	one := plain(t, "class C fun m(a: U, b: U = 1) => a"+other+" fun h() => 1")
	two := plain(t, "class C fun m(a: U, b: U = 1) => a"+other+" fun h() => x as U; object end")
	cut := func(s string) string { s, _, _ = strings.Cut(s, "fun h()"); return s }
	if cut(one) != cut(two) {
		t.Errorf("%s\n%s", one, two)
	}
}
