package token

import (
	"math/rand"
	"slices"
	"strings"
	"testing"
	"unicode/utf8"

	"hackamore/api"
)

// show writes tokens as their kinds and texts, with a slash ahead of those that have Line.
func show(l []Token) string {
	var out []string
	for _, t := range l {
		s := string("?ikdfsy"[t.Kind]) + ":" + t.Text
		if t.Line {
			s = "/" + s
		}
		out = append(out, s)
	}
	return strings.Join(out, " ")
}

// TestScan is P1.1 for texts that are right.
func TestScan(t *testing.T) {
	for text, want := range map[string]string{
		"":                              "",
		" \t\r\n// a":                   "",
		"let x' = 0xFF // a":            "/k:let i:x' y:= d:255",
		"a\nb // c\nd /* \n */ e":       "/i:a /i:b /i:d /i:e",
		"a /* /* */ // */ b":            "/i:a i:b",
		"a /*/**/*/ b":                  "/i:a i:b",
		"1.e":                           "/d:1 y:. i:e",
		"1._5":                          "/d:1 y:. i:_5",
		"1.5.6":                         "/f:1.5 y:. d:6",
		"0x1.5":                         "/d:1 y:. d:5",
		"a.>b":                          "/i:a y:.> i:b",
		"0 00 007 1_000":                "/d:0 d:0 d:7 d:1000",
		"0xfF_0a 0b1_01":                "/d:65290 d:5",
		"1.50 1_0.0_1 1E5 1e+5 2E-0":    "/f:1.50 f:10.01 f:1e5 f:1e+5 f:2e-0",
		"007.5":                         "/f:007.5",
		"1'a' 'b'":                      "/d:1 d:97 d:98",
		`'\x41' '\u00e9' '\0' '"' '\''`: "/d:65 d:233 d:0 d:34 d:39",
		"'é'":                           "/d:233",
		"'\\U10FFFF'":                   "/d:1114111",
		`"a\x41" "" "'" "\"\\\n"`:       "/s:aA s: s:' s:\"\\\n",
		"\"\"\"a\n\"\\x\"\"\" b":        "/s:a\n\"\\x i:b",
		`""""""`:                        "/s:",
		"340282366920938463463374607431768211455":        "/d:340282366920938463463374607431768211455",
		"0xFFFFFFFFFFFFFFFFFFFFFFFFFFFFFFFF":             "/d:340282366920938463463374607431768211455",
		"00340282366920938463463374607431768211455":      "/d:340282366920938463463374607431768211455",
		"18446744073709551616":                           "/d:18446744073709551616",
		"let' iso _ _a' x'y":                             "/i:let' k:iso i:_ i:_a' i:x' i:y",
		"#read#any #share'a'":                            "/y:#read y:#any y:#share d:97",
		"<<= >>=>=-> -?->":                               "/y:<< y:= y:>> y:=> y:= y:-> y:-? y:->",
		"a!=b a! =b a=>b":                                "/i:a y:!= i:b i:a y:! y:= i:b i:a y:=> i:b",
		"99999999999999999999999999999999999999999999.0": "/f:99999999999999999999999999999999999999999999.0",
	} {
		l, at, e := Scan(text)
		if e != api.OK || at != 0 || show(l) != want {
			t.Errorf("Scan of %q: %s, place %d, error %d; want %s", text, show(l), at, e, want)
		}
	}
}

// TestScanErrors is P1.1 for texts with an error behind two bytes.
func TestScanErrors(t *testing.T) {
	for text, want := range map[string]api.Errno{
		"@": ErrChar, "#": ErrChar, "#reads": ErrChar, "#read_": ErrChar, "é": ErrChar, "\xff": ErrChar, "\x00": ErrChar, "`": ErrChar,
		"/*": ErrComment, "/* /* */": ErrComment, "/*/": ErrComment, "// \xff": ErrComment, "/* \xff */": ErrComment,
		"\"a": ErrString, "\"a\nb\"": ErrString, `"\q"`: ErrString, `"\x80"`: ErrString, `"\x4"`: ErrString,
		`"\ud800"`: ErrString, `"\U110000"`: ErrString, `"\u12"`: ErrString, "\"\xff\"": ErrString, `"\`: ErrString,
		`"""a""`: ErrString, "\"\"\"\xff\"\"\"": ErrString, `"""a""""`: api.OK,
		"''": ErrString, "'ab'": ErrString, "'a": ErrString, "'": ErrString, "'\n'": ErrString, "'''": ErrString, "'\xff'": ErrString,
		"0x": ErrNumber, "0b": ErrNumber, "0xg": ErrNumber, "0b2": ErrNumber, "0b12": ErrNumber, "0X1": ErrNumber,
		"1_": ErrNumber, "1__0": ErrNumber, "0x_1": ErrNumber, "0x1_": ErrNumber, "1x": ErrNumber, "1.5_": ErrNumber, "1.5x": ErrNumber,
		"1e": ErrNumber, "1e+": ErrNumber, "1.5e-x": ErrNumber, "1e_5": ErrNumber, "1.5_e3": ErrNumber, "1_.5": ErrNumber, "'a'b": ErrNumber, "'a'1": ErrNumber,
		"340282366920938463463374607431768211456": ErrNumber, "0x100000000000000000000000000000000": ErrNumber,
	} {
		l, at, e := Scan("x " + text)
		if text == `"""a""""` { // what is left is a string that is not closed
			if at != 9 || e != ErrString {
				t.Errorf("Scan of a fourth quote: place %d, error %d", at, e)
			}
			continue
		}
		if e != want || at != 2 || len(l) > 0 {
			t.Errorf("Scan of x %q: %v, place %d, error %d; want 2, %d", text, l, at, e, want)
		}
	}
	if _, at, e := Scan(strings.Repeat(" ", api.MaxSource)); at != 0 || e != api.OK {
		t.Errorf("a long text: %d at %d", e, at)
	}
	if _, at, e := Scan("@" + strings.Repeat(" ", api.MaxSource)); at != 0 || e != api.ErrLarge {
		t.Errorf("a text that is too long: %d at %d", e, at)
	}
}

// TestText is P1.1 for Text.
func TestText(t *testing.T) {
	l, _, _ := Scan("f (\n1)")
	if s, e := Text(l); e != api.OK || s != "f (\n1 )" {
		t.Errorf("Text: %q, error %d", s, e)
	}
	if s, e := Text(nil); e != api.OK || s != "" {
		t.Errorf("Text of nothing: %q, error %d", s, e)
	}
	for _, x := range []Token{
		{Kind: Ident, Text: "let"}, {Kind: Ident, Text: ""}, {Kind: Ident, Text: "'"}, {Kind: Ident, Text: "1a"}, {Kind: Ident, Text: "a'b"}, {Kind: Ident, Text: "é"},
		{Kind: Keyword, Text: "x"}, {Kind: Keyword, Text: ""}, {Kind: Keyword, Text: "let var"}, {Kind: Keyword, Text: " "},
		{Kind: Int, Text: ""}, {Kind: Int, Text: "01"}, {Kind: Int, Text: "0x1"}, {Kind: Int, Text: "-1"}, {Kind: Int, Text: "340282366920938463463374607431768211456"},
		{Kind: Float, Text: "1"}, {Kind: Float, Text: "1."}, {Kind: Float, Text: ".5"}, {Kind: Float, Text: "1E5"}, {Kind: Float, Text: "1_0.5"}, {Kind: Float, Text: "1e"}, {Kind: Float, Text: "1.5e+"}, {Kind: Float, Text: "1.5x"}, {Kind: Float, Text: "1e5 "},
		{Kind: String, Text: "\xff"}, {Kind: Symbol, Text: "#"}, {Kind: Symbol, Text: ""}, {Kind: Symbol, Text: "<<="},
		{Kind: 0, Text: "x"}, {Kind: 7, Text: "x"}, {Kind: -1, Text: "x"},
	} {
		x.Line = true
		if s, e := Text([]Token{x}); e != api.ErrForm || s != "" {
			t.Errorf("Text of %v: %q, error %d", x, s, e)
		}
	}
	if _, e := Text([]Token{{Kind: Ident, Text: "a"}}); e != api.ErrForm {
		t.Errorf("a first token without Line: %d", e)
	}
	long := Token{Kind: Ident, Text: strings.Repeat("a", api.MaxSource), Line: true}
	if _, e := Text([]Token{long}); e != api.OK {
		t.Errorf("a long token: %d", e)
	}
	if _, e := Text([]Token{long, {Kind: Ident, Text: "b"}, {}}); e != api.ErrLarge {
		t.Errorf("a text that is too long, ahead of a wrong token: %d", e)
	}
	if _, e := Text([]Token{long, {}}); e != api.ErrForm {
		t.Errorf("a wrong token: %d", e)
	}
}

// TestLists: the lists in the order of the page, as new memory.
func TestLists(t *testing.T) {
	k, s := Keywords(), Symbols()
	if len(k) != 51 || k[0] != "actor" || k[50] != "xor" || !slices.IsSorted(k) {
		t.Errorf("Keywords: %v", k)
	}
	if len(s) != 43 || s[0] != "<<" || s[14] != "#read" || s[42] != "~" {
		t.Errorf("Symbols: %d %v", len(s), s)
	}
	k[0], s[0] = "", ""
	if Keywords()[0] != "actor" || Symbols()[0] != "<<" {
		t.Error("the lists share memory")
	}
	for _, w := range k[1:] {
		if IsIdent(w) || !IsIdent(w+"'") || !IsIdent(w+"_") {
			t.Errorf("IsIdent of %s", w)
		}
	}
	for w, want := range map[string]bool{"": false, "_": true, "a''": true, "'": false, "a b": false, "1": false, "A1_": true, "é": false,
		strings.Repeat("x", api.MaxName): true, strings.Repeat("x", api.MaxName+1): false} {
		if IsIdent(w) != want {
			t.Errorf("IsIdent of %q", w)
		}
	}
}

// texts makes texts of pieces of tokens, blanks and comments.
func texts(r *rand.Rand) string {
	pieces := append(append(Keywords(), Symbols()...), "a", "x'", "_1", "0", "12", "0xF", "1.5", "2e3", "'a'", "\"s\\n\"", "\"\"\"b\"\"\"", "\n", " ", "\t", "// c\n", "/* /* */ \n */", "é", "_", "e", ".", "1", "@", "\"")
	var out strings.Builder
	for range r.Intn(12) {
		out.WriteString(pieces[r.Intn(len(pieces))])
		if r.Intn(3) > 0 {
			out.WriteString(" ")
		}
	}
	return out.String()
}

// placeless returns tokens without their places.
func placeless(l []Token) []Token {
	l = slices.Clone(l)
	for i := range l {
		l[i].At = 0
	}
	return l
}

// TestThereAndBack is P1.2, and P1.3 and P1.4 for the same texts.
func TestThereAndBack(t *testing.T) {
	r := rand.New(rand.NewSource(1))
	right := 0
	for range 20000 {
		text := texts(r)
		l, at, e := Scan(text)
		if e != api.OK {
			if at < 0 || at >= len(text) {
				t.Fatalf("%q: error %d at %d", text, e, at)
			}
			continue
		}
		right++
		s, e := Text(l)
		back, _, e2 := Scan(s)
		if e != api.OK || e2 != api.OK || !slices.Equal(placeless(l), placeless(back)) {
			t.Fatalf("%q: Text %q, errors %d, %d", text, s, e, e2)
		}
		checkPlaces(t, text, l)
		checkBlanks(t, text, l, r)
	}
	if right < 5000 {
		t.Errorf("only %d texts were right", right)
	}
}

func checkPlaces(t *testing.T, text string, l []Token) {
	t.Helper()
	for i, x := range l {
		if i > 0 && l[i-1].At >= x.At {
			t.Fatalf("%q: places %d, %d", text, l[i-1].At, x.At)
		}
		cut, _, e := Scan(text[:x.At])
		if e != api.OK || !slices.Equal(cut, l[:i]) {
			t.Fatalf("%q cut at %d: %v, error %d", text, x.At, cut, e)
		}
	}
	if len(l) > 0 {
		if lead, _, e := Scan(text[:l[0].At]); e != api.OK || len(lead) > 0 || !l[0].Line {
			t.Fatalf("%q: ahead of the first token: %v", text, lead)
		}
	}
}

func checkBlanks(t *testing.T, text string, l []Token, r *rand.Rand) {
	t.Helper()
	if len(l) == 0 {
		return
	}
	at := l[r.Intn(len(l))].At
	m, _, e := Scan(text[:at] + []string{" ", "\t", "\r", "\n"}[r.Intn(4)] + text[at:])
	if e != api.OK || len(m) != len(l) {
		t.Fatalf("%q with a blank at %d: %v, error %d", text, at, m, e)
	}
	for i := range l {
		if l[i].Kind != m[i].Kind || l[i].Text != m[i].Text {
			t.Fatalf("%q with a blank at %d: %v", text, at, m[i])
		}
	}
}

// TestQuote is P1.5, and P1.1 for Quote.
func TestQuote(t *testing.T) {
	for s, want := range map[string]string{"": `""`, "a\n\"\x01": `"a\n\"\x01"`, "é'~\x7f": `"é'~\x7F"`, "\t\r\x00\\\x1f": `"\t\r\0\\\x1F"`} {
		if q, e := Quote(s); e != api.OK || q != want {
			t.Errorf("Quote of %q: %s, error %d, want %s", s, q, e, want)
		}
	}
	if q, e := Quote("a\xff"); e != api.ErrForm || q != "" {
		t.Errorf("Quote of no UTF-8: %q, error %d", q, e)
	}
	r := rand.New(rand.NewSource(2))
	for range 5000 {
		b := make([]byte, r.Intn(6))
		for i := range b {
			b[i] = byte(r.Intn(256))
		}
		s := string(b)
		if r.Intn(2) == 0 {
			s = string(rune(r.Intn(utf8.MaxRune))) + "\ufeff\ufffd"
		}
		q, e := Quote(s)
		if (e == api.OK) != utf8.ValidString(s) {
			t.Fatalf("Quote of %q: error %d", s, e)
		}
		if e != api.OK {
			continue
		}
		if l, _, e := Scan(q); e != api.OK || len(l) != 1 || l[0].Kind != String || l[0].Text != s {
			t.Fatalf("Scan of %s: %v, error %d", q, l, e)
		}
	}
}
