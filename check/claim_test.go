package check_test

import (
	"slices"
	"strings"
	"testing"

	"hackamore/api"
	"hackamore/check"
	"hackamore/notation"
)

// matched is a program whose entities have more and less in common.
const matched = `
	interface tag Any
	primitive val None
	primitive val U32
	trait ref T
	trait ref Far
	interface ref I
	fun box m()
	class ref C is T ref
	fun box m()
	class ref D is T ref
	class ref E
	fun ref m()
`

// TestClaims is P13.1 for Claims, and P13.5 for matches.
func TestClaims(t *testing.T) {
	p := notation.Program(matched)
	for _, x := range []struct {
		operand, claim string
		want           bool
	}{
		{"C ref", "C ref", true}, {"C ref", "C box", true}, {"C box", "C ref", false}, {"C iso", "C iso", true}, {"C iso^", "C ref", true}, {"C iso!", "C iso", false}, {"C iso", "C ref", false}, {"C ref", "D val", true}, {"C ref", "U32 val", true},
		{"(C iso! | None val)", "C iso", false}, {"(C iso! | None val)", "None val", true}, {"(C iso! | None val)", "C tag", true}, {"(C ref | (D box | None val))", "D ref", false}, {"(C ref | (D box | None val))", "C ref", true}, {"C ref", "(C box | (D val | U32 val))", true}, {"C box", "(C ref | D val)", false}, {"C box", "(C box | C tag)", true},
		{"T ref", "C ref", true}, {"T box", "C ref", false}, {"T box", "E val", true}, {"C box", "T ref", false}, {"D box", "I ref", true}, {"C box", "I ref", false}, {"I box", "T ref", false}, {"E box", "I ref", false}, {"Far box", "T ref", true}, {"Far box", "Far ref", true}, {"Any box", "C ref", false}, {"Any tag", "Far ref", true}, {"Any tag", "X ref", true}, {"X box", "X ref", true},
		{"(T ref & I ref)", "C ref", false}, {"(T ref & I ref)", "D val", true}, {"(T ref & I ref)", "E val", true}, {"(T ref & Far ref)", "C ref", true}, {"(T ref & I ref)", "(T ref & I ref)", false}, {"C ref", "(T ref & I ref)", false}, {"D ref", "(T ref & I ref)", true}, {"(T ref & (I ref | D ref))", "D ref", false}, {"(T ref & (I ref | D ref))", "E ref", true}, {"(T ref & I ref)", "Any tag", false},
		{"(C ref, U32 val)", "(C ref, U32 val)", true}, {"(C box, U32 val)", "(C ref, U32 val)", false}, {"(C box, U32 val)", "(C ref, None val)", true}, {"(C box, U32 val)", "(D ref, U32 val)", true}, {"(C box, U32 val)", "(C ref, U32 val, U32 val)", true}, {"(C ref, U32 val)", "C ref", true}, {"C ref", "(C ref, U32 val)", true}, {"((C box, U32 val), U32 val)", "((C ref, U32 val), U32 val)", false}, {"((C box, U32 val), U32 val)", "((C ref, None val), U32 val)", true},
		{"(C ref, U32 val)", "Any tag", true}, {"Any tag", "(C ref, U32 val)", true}, {"(C ref, U32 val)", "((C ref, U32 val) & Any ref)", false}, {"((C ref, U32 val) & Any ref)", "(C ref, U32 val)", false}, {"((C ref, U32 val) & Any ref)", "((C ref, U32 val) & Any ref)", false}, {"((C ref, U32 val) & Any ref)", "C ref", true}, {"C ref", "((C ref, U32 val) & Any ref)", true}, {"(((C ref, U32 val) | C ref) & Any ref)", "C ref", false}, {"(((C ref, U32 val) | C ref) & Any ref)", "D ref", true}, {"(((C ref, U32 val) | C ref) & Any ref)", "(U32 val, D ref)", false},
		{"(C ref, U32 val)", "((C box, U32 val) | C ref)", true}, {"((C box | None val), U32 val)", "((C ref | None val), U32 val)", false}, {"((C ref | None val), U32 val)", "((C box | None val), U32 val)", true}, {"(C box, (U32 val | None val))", "(C ref, (None val | E ref))", false}, {"(C box, (U32 val | None val))", "(C ref, (D val | E ref))", true},
		{"this ref", "C ref", true}, {"C ref", "$A", true}, {"(this ref -> C ref)", "C ref", true}, {"this ref", "this ref", true}, {"T[U32 val] box", "T ref", true}, {"C[U32 val] box", "C[U32 val] ref", true},
		{"(T ref & Far ref)", "(T ref & I ref)", true}, {"((C box, U32 val), C box)", "((C ref, None val), C ref)", true}, {"((C box, U32 val), C box)", "((C ref, U32 val), C ref)", false},
		{"((C ref, C ref) | C ref)", "((C ref, C box) | C tag)", true}, {"((C ref, C box) | C ref)", "((C ref, C ref) | C tag)", false},
	} {
		if got := check.Claims(p, notation.Type(x.operand), notation.Type(x.claim)); got != x.want {
			t.Errorf("%s of %s: %v", x.claim, x.operand, got)
		}
	}
	for _, bad := range []api.Type{{}, {Kind: 9}, {Kind: api.TypeName, Name: "C"}, {Kind: api.TypeUnion, Args: []api.Type{notation.Type("C ref"), {}}}, notationDeep(21)} {
		if check.Claims(p, bad, notation.Type("C ref")) || check.Claims(p, notation.Type("C ref"), bad) {
			t.Errorf("a claim of %v", bad)
		}
	}
	if !check.Claims(nil, notation.Type("C box"), notation.Type("C ref")) {
		t.Error("without entities nothing is common")
	}
}

// notationDeep returns a tuple of a depth.
func notationDeep(depth int) api.Type {
	x := notation.Type("C ref")
	for range depth - 1 {
		x = api.Type{Kind: api.TypeTuple, Args: []api.Type{x, notation.Type("C ref")}}
	}
	return x
}

// TestMatches is P13.1 for OpMatch and OpCase.
func TestMatches(t *testing.T) {
	p := notation.Program(matched)
	p = append(p, notation.Program("primitive val Bool\nclass ref main.C\nfun ref f()")...)
	c := place(t, p, "main.C.f", "")
	rules(t, p, c, []row{
		{"(match this (case{C ref} - this))", "C ref; U32 val", "U32 val"}, {"(match this (case{C ref} this this))", "C ref; U32 val", "(None val | U32 val)"}, {"(match this (case{C ref} - this) (case{None val} - this))", "(C ref | None val); U32 val; C ref", "(C ref | U32 val)"}, {"(match this (case{C ref} - this))", "(C ref | None val); U32 val", "(None val | U32 val)"},
		{"(match this (case{C ref} - this) (case{None val} this this))", "(C ref | None val); U32 val; C ref", "(C ref | None val | U32 val)"}, {"(match this (case{C ref} - error))", "C ref; 0", "0"}, {"(match this (case{D val} - error))", "C ref; 0", "None val"}, {"(match this (case{Any tag} - error) (case{C val} - this))", "C val; 0; U32 val", "U32 val"}, {"(match this (case{T box} - this))", "C iso^; U32 val", "U32 val"}, {"(match this (case{C tag} - this))", "C iso!; U32 val", "U32 val"},
		{"(match this (case{(C ref | None val)} - this))", "(None val | C ref); U32 val", "U32 val"}, {"(match this (case{Any tag} - this))", "(C ref, C ref); U32 val", "(None val | U32 val)"}, {"(match this (case{(C ref, C tag)} - this))", "(C ref, C box); U32 val", "U32 val"}, {"(match this (case{C ref} - this) (case{C ref} this this))", "C ref; C ref; C ref", "C ref"},
		{"(match error (case{C ref} - this))", "0; U32 val", "ErrType"}, {"(match error (case - this))", "0; U32 val", "ErrType"}, {"(match this (case - this))", "C ref; U32 val", "ErrCases"}, {"(match this (case{C ref; C ref} - this))", "C ref; U32 val", "ErrCases"}, {"(match this (case{C ref} this))", "C ref; U32 val", "ErrCases"}, {"(match this (case{C ref} - this this))", "C ref; U32 val", "ErrCases"}, {"(match this (case{C ref} - this) case{C ref})", "C ref; U32 val; 0", "ErrCases"},
		{"(match this (case{C ref} - this))", "C box; U32 val", "ErrCases"}, {"(match this (case{C ref} this this))", "C box; U32 val", "ErrCases"}, {"(match this (case{None val} - this) (case{C ref} - this))", "C box; U32 val; U32 val", "ErrCases"},
		{"(case{C ref} - this)", "0; U32 val", "U32 val"}, {"(case{C ref} - this)", "U32 val; U32 val", "U32 val"}, {"(case.x{C ref} this this)", "Bool val; U32 val", "U32 val"}, {"(case{C ref} this error)", "Bool val; 0", "0"}, {"(case{C ref} error this)", "0; U32 val", "U32 val"}, {"(case{C ref} this this)", "U32 val; U32 val", "ErrType"},
		{"(case{$A} - this)", "0; U32 val", "ErrForm"}, {"(case{this} - this)", "0; U32 val", "ErrForm"}, {"(case{(this ref -> C ref)} - this)", "0; U32 val", "ErrForm"}, {"(case{(T ref & I box)} - this)", "0; U32 val", "ErrForm"}, {"(case{(T ref & I ref)} - this)", "0; U32 val", "U32 val"}, {"(case{A[(this ref -> C ref)] val} this this)", "U32 val; U32 val", "ErrForm"},
	})
	var many []string
	for i := range 65 {
		many = append(many, "(case{X"+strings.Repeat("y", i)+" val} - this)")
	}
	rows := func(n int, want string) []row {
		return []row{{"(match this " + strings.Join(many[:n], " ") + ")", "C ref" + strings.Repeat("; U32 val", n), want}}
	}
	rules(t, p, c, rows(64, "(None val | U32 val)"))
	rules(t, p, c, rows(65, "ErrSize"))
}

// TestManyClaims: claims of many alternatives come to an end soon.
func TestManyClaims(t *testing.T) {
	p := notation.Program(matched)
	for i := range 180 {
		p = append(p, api.Entity{Kind: api.Class, Name: "X" + strings.Repeat("x", i)})
	}
	var l []api.Type
	for i := range 64 {
		l = append(l, api.Type{Kind: api.TypeName, Name: p[i+12].Name, Cap: api.Box})
	}
	wide := api.Type{Kind: api.TypeUnion, Args: l}
	pair := api.Type{Kind: api.TypeTuple, Args: []api.Type{wide, wide, wide}}
	if !check.Claims(p, wide, wide) || !check.Claims(p, pair, pair) {
		t.Error("a wide type does not claim itself")
	}
	x := notation.Expr("(match this " + strings.Repeat("(case{C box} - this)", 500) + ")")
	for i := range x.Kids[1:] {
		x.Kids[i+1].Types = []api.Type{pair}
	}
	kids := append([]api.Type{pair}, slices.Repeat([]api.Type{notation.Type("U32 val")}, 500)...)
	p[11].Methods = notation.Program("class ref C\nfun ref f()")[0].Methods
	if got, e := check.Rule(p, check.Context{Entity: 11}, x, kids); e != api.OK || shown(got) != "(None val | U32 val)" { // the questions are too many
		t.Errorf("a wide match: %s, error %d", shown(got), e)
	}
}
