package syntax_test

import (
	"slices"
	"strings"
	"testing"

	"hackamore/api"
	"hackamore/sample"
	"hackamore/syntax"
)

func node(kind int, text string, kids ...api.Node) api.Node {
	return api.Node{Kind: kind, Text: text, Kids: kids}
}

// trees hands out trees of all kinds.
func trees() []api.Node {
	var l []api.Node
	for seed := range uint64(400) {
		m := sample.New(seed)
		l = append(l, m.Expr(30), m.Type(10), m.Module(40))
	}
	return l
}

func parse(t *testing.T, s string) api.Node {
	t.Helper()
	n, e := syntax.Parse(s)
	if e != api.OK {
		t.Fatalf("Parse of %s: error %d", s, e)
	}
	return n
}

// TestWellFormed is P2.1: samples are well-formed, and each change of a shape makes them ill-formed.
func TestWellFormed(t *testing.T) {
	for _, s := range []string{
		`(Module (Use "a/b" (Nothing)) (Entity "C" (Word "class") (Word) (Bounds (Bound "A" (Nothing))) (Nothing) (Field "x" (Word "var") (ThisType) (IntLit "1")) (Method "f" (Word "fun") (Word "box") (Bounds) (Params (Param "y" (ThisType) (Nothing))) (Nothing) (Word "?") (Nothing))))`,
		`(Entity "T" (Word "type") (Word) (Bounds) (NamedType "p.A" (Word "#any") (Word "^") (ThisType)))`,
		`(LambdaType (Word "val") (Word "!") (Word "?") (Nothing) (ThisType) (ThisType))`,
		`(Call (Name "f") (Word "?") (IntLit "1") (Named "x" (BoolLit "true")))`,
		`(Match (Name "a") (Nothing) (Case (Name "b") (Nothing) (Name "c")))`,
		`(Try (Error) (Break) (Continue))`, `(Return (Nothing))`, `(Array (ThisType))`,
		`(Assign (Tuple (Name "a") (Tuple (Decl "b" (Word "let") (ThisType)) (Dot "c" (This)))) (FloatLit "1.5e3"))`,
		`(Object (Word "iso") (Nothing))`, `(Word "any \"thing\"")`, `(Word)`, `(StringLit)`, `(StringLit "-")`,
		`(Lambda (Word) (Params) (Nothing) (Word) (This) (Capture "x" (ThisType) (This)))`,
	} {
		parse(t, s)
	}
	for _, s := range []string{
		`(Seq (Name "x"))`, `(Seq (Name "x") (Seq (Name "x") (Name "y")))`, `(Tuple (This))`, `(UnionType (ThisType))`, `(Qualify (This))`,
		`(Match (This) (Nothing))`, `(Call (This) (Word) (Named "x" (This)) (This))`, `(Call (This) (Word "!"))`, `(Call (This) (Word "-"))`,
		`(Assign (This) (This))`, `(Assign (Tuple (Name "a") (This)) (This))`, `(Name)`, `(Name "let")`, `(Name "a.b")`, `(This "a")`, `(This (This))`,
		`(NamedType "a.b.c" (Word) (Word))`, `(NamedType "a" (Word "^") (Word))`, `(NamedType "a." (Word) (Word))`, `(IntLit "01")`, `(IntLit)`, `(IntLit "340282366920938463463374607431768211456")`,
		`(FloatLit "1")`, `(FloatLit "1E5")`, `(BoolLit "True")`, `(Unary "+" (This))`, `(Binary "**" (This) (This))`, `(Binary "and or" (This) (This))`, `(Binary (This) (This))`,
		`(Entity "T" (Word "type") (Word) (Bounds) (Nothing))`, `(Entity "T" (Word "type") (Word) (Bounds) (ThisType) (Field "x" (Word "var") (ThisType) (Nothing)))`,
		`(Entity "T" (Word "object") (Word) (Bounds) (Nothing))`, `(Entity "T" (Word "class") (Word "#any") (Bounds) (Nothing))`, `(Entity "T" (Word) (Word) (Bounds) (Nothing))`,
		`(Module (Entity "T" (Word "class") (Word) (Bounds) (Nothing)) (Use "p" (Nothing)))`, `(Use "a//b" (Nothing))`, `(Use (Nothing))`, `(Use "a" (ThisType))`,
		`(Case (This) (This))`, `(If (This) (This))`, `(If (Nothing) (This) (This))`, `(Word (Word))`, `(Nothing "x")`, `(Params (Bound "A" (Nothing)))`,
		`(Field "x" (Word) (ThisType) (Nothing))`, `(Array)`, `(Decl "x" (Word "fun") (ThisType))`, `(Recover (Word "#any") (This))`, `(Named "x" (ThisType))`,
		`(Return (Named "x" (This)))`, `(Return (Case (This) (Nothing) (This)))`, `(Object (Word) (Nothing) (This))`,
	} {
		if _, e := syntax.Parse(s); e != api.ErrForm {
			t.Errorf("Parse of %s: error %d, want %d", s, e, api.ErrForm)
		}
	}
	for _, n := range []api.Node{{}, {Kind: -1}, {Kind: syntax.Last + 1}, {Kind: syntax.Word, Text: "\xff"}, {Kind: syntax.StringLit, Text: "\xff"}, {Kind: syntax.FloatLit, Text: strings.Repeat("1", api.MaxSource-1) + ".0"}, {Kind: syntax.Name, Text: strings.Repeat("x", api.MaxName+1)}} {
		if e := syntax.Check(n); e != api.ErrForm {
			t.Errorf("Check of %v: error %d", n.Kind, e)
		}
		if s, e := syntax.Text(n); e != api.ErrForm || s != "" {
			t.Errorf("Text of %v: error %d", n.Kind, e)
		}
	}
}

// TestSize is P2.1 for the limits, which come ahead of the form in Check, and behind it in Parse.
func TestSize(t *testing.T) {
	wide := node(syntax.Tuple, "")
	for range api.MaxNodes - 1 {
		wide.Kids = append(wide.Kids, node(syntax.This, ""))
	}
	deep := node(syntax.This, "")
	for range api.MaxTree - 1 {
		deep = node(syntax.Consume, "", deep)
	}
	for _, n := range []api.Node{wide, deep} {
		count, depth := syntax.Size(n)
		if count != api.MaxNodes && depth != api.MaxTree || syntax.Check(n) != api.OK {
			t.Errorf("the largest trees: %d nodes, depth %d, error %d", count, depth, syntax.Check(n))
		}
		s, _ := syntax.Text(n)
		if m := parse(t, s); !syntax.Equal(m, n) {
			t.Error("the largest trees: another tree")
		}
	}
	if e := syntax.Check(node(syntax.Consume, "", deep)); e != api.ErrSize {
		t.Errorf("a tree that is too deep: %d", e)
	}
	if e := syntax.Check(node(syntax.Seq, "", deep)); e != api.ErrSize {
		t.Errorf("a tree that is too deep, and wrong: %d", e)
	}
	wide.Kids = append(wide.Kids, node(0, ""))
	if e := syntax.Check(wide); e != api.ErrSize {
		t.Errorf("a tree that is too large, and wrong: %d", e)
	}
	nested := strings.Repeat("(Consume ", api.MaxTree) + "%" + strings.Repeat(")", api.MaxTree)
	if _, e := syntax.Parse(strings.Replace(nested, "%", "(This)", 1)); e != api.ErrSize {
		t.Errorf("Parse of a deep tree: %d", e)
	}
	if _, e := syntax.Parse(strings.Replace(nested, "%", "(Name)", 1)); e != api.ErrForm {
		t.Errorf("Parse of a deep and wrong tree: %d", e)
	}
	if _, e := syntax.Parse(strings.Repeat("(", 100001)); e != api.ErrLarge {
		t.Errorf("Parse of a long text: %d", e)
	}
	if _, e := syntax.Parse(strings.Repeat("(", 100000)); e != api.ErrForm {
		t.Errorf("Parse of brackets: %d", e)
	}
	count, depth := syntax.Size(node(0, "", node(-1, "x"), node(7, "", node(9, ""))))
	if count != 4 || depth != 3 {
		t.Errorf("Size: %d, %d", count, depth)
	}
}

// TestThereAndBack is P2.2, and P2.4 for the same trees.
func TestThereAndBack(t *testing.T) {
	l := trees()
	seen := map[string]api.Node{}
	for i, n := range l {
		s, e := syntax.Text(n)
		if e != api.OK {
			t.Fatalf("tree %d: error %d", i, e)
		}
		if m := parse(t, s); !syntax.Equal(m, n) {
			t.Fatalf("tree %d: Parse of %s is another one", i, s)
		}
		if other, ok := seen[s]; ok && !syntax.Equal(other, n) {
			t.Fatalf("two trees have the text %s", s)
		}
		seen[s] = n
		last := l[max(0, i-3)]
		text, _ := syntax.Text(last)
		if syntax.Equal(last, n) != (text == s) || syntax.Equal(n, last) != (text == s) {
			t.Fatalf("Equal of %s and %s", text, s)
		}
	}
	long := node(syntax.StringLit, strings.Repeat("é", 30000))
	if s, _ := syntax.Text(long); !syntax.Equal(parse(t, s), long) {
		t.Error("a long string")
	}
	if !syntax.Equal(node(1, "a", []api.Node{}...), api.Node{Kind: 1, Text: "a", Kids: []api.Node{}}) || syntax.Equal(node(1, "a"), node(1, "b")) || syntax.Equal(node(1, "a"), node(2, "a")) {
		t.Error("Equal of leaves")
	}
}

// TestTexts is P2.2 for texts that are none: with other spaces and literals.
func TestTexts(t *testing.T) {
	n, _ := syntax.Parse(`(Assign (Name "x") (IntLit "1"))`)
	if s, e := syntax.Text(n); e != api.OK || s != `(Assign (Name "x") (IntLit "1"))` || n.Kind != syntax.Assign {
		t.Errorf("the example: %s, error %d", s, e)
	}
	for _, s := range []string{"", "(", ")", "()", "This", "(This", "(This))", "(This) ", " (This)", "( This)", "(This )", "(this)", "(Word \"\")", "(Word  \"a\")", "(Word\"a\")",
		"(Word \"a)", "(Word \"a\" )", `(Word "\x41")`, `(Word "\x0a")`, `(Word "\x0A")`, `(Word "\u0041")`, `(Word "\'")`, "(Word \"\n\")", `(Word "\`, `(Word "\x0`, `(Word "\xGG")`, "(Word \"\xff\")",
		"(Consume  (This))", "(Consume(This))", "(Consume (This)(This))", "(Word \"a\" \"b\")", "(Shape)"} {
		if m, e := syntax.Parse(s); e != api.ErrForm || m.Kind != 0 {
			t.Errorf("Parse of %q: %v, error %d", s, m, e)
		}
	}
	if m := parse(t, `(Word "\x01\x7F\0\n\"\\")`); m.Text != "\x01\x7f\x00\n\"\\" {
		t.Errorf("escapes: %q", m.Text)
	}
}

// TestParts is P2.3.
func TestParts(t *testing.T) {
	for i, n := range trees() {
		m := n
		var path []int
		for len(m.Kids) > 0 {
			next := (i + len(path)) % len(m.Kids)
			path = append(path, next)
			m = m.Kids[next]
			part, e := syntax.At(n, path)
			if e != api.OK || !syntax.Equal(part, m) || syntax.Check(part) != api.OK {
				t.Fatalf("tree %d: At %v: error %d", i, path, e)
			}
		}
		before, _ := syntax.Text(n)
		put, e := syntax.Put(n, path, node(99, "new"))
		part, _ := syntax.At(put, path)
		if after, _ := syntax.Text(n); e != api.OK || !syntax.Equal(part, node(99, "new")) || before != after {
			t.Fatalf("tree %d: Put at %v: error %d", i, path, e)
		}
		if same, e := syntax.Put(n, path, m); e != api.OK || !syntax.Equal(same, n) {
			t.Fatalf("tree %d: Put of the part at %v: error %d", i, path, e)
		}
	}
	n := parse(t, `(Assign (Name "x") (IntLit "1"))`)
	for _, path := range [][]int{{2}, {-1}, {0, 0}, {1, 0, 5}} {
		if m, e := syntax.At(n, path); e != api.ErrNone || m.Kind != 0 {
			t.Errorf("At %v: error %d", path, e)
		}
		if m, e := syntax.Put(n, path, n); e != api.ErrNone || m.Kind != 0 || len(m.Kids) > 0 {
			t.Errorf("Put at %v: error %d", path, e)
		}
	}
	if m, e := syntax.At(n, nil); e != api.OK || !syntax.Equal(m, n) {
		t.Errorf("At no path: error %d", e)
	}
	if m, e := syntax.Put(n, []int{}, node(5, "")); e != api.OK || m.Kind != 5 {
		t.Errorf("Put at no path: error %d", e)
	}
}

// TestGroups is P2.1 for the groups of kinds.
func TestGroups(t *testing.T) {
	var types, exprs, members []int
	for kind := -1; kind < 60; kind++ {
		n := node(kind, "whatever")
		if syntax.IsType(n) {
			types = append(types, kind)
		}
		if syntax.IsExpr(n) {
			exprs = append(exprs, kind)
		}
		if syntax.IsMember(n) {
			members = append(members, kind)
		}
	}
	if len(types) != 7 || types[0] != 12 || types[6] != 18 || !slices.Equal(members, []int{8, 9}) {
		t.Errorf("types %v, members %v", types, members)
	}
	if len(exprs) != 35 || exprs[0] != 19 || exprs[34] != 55 || slices.Contains(exprs, 32) || slices.Contains(exprs, 48) {
		t.Errorf("expressions %v", exprs)
	}
}
