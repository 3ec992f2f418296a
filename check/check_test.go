package check_test

import (
	"reflect"
	"slices"
	"strings"
	"testing"

	"hackamore/api"
	"hackamore/check"
	"hackamore/notation"
	"hackamore/types"
)

// shown returns the text of a type, `0` for the zero Type.
func shown(t api.Type) string {
	if reflect.DeepEqual(t, api.Type{}) {
		return "0"
	}
	s, e := types.Text(t)
	if e != api.OK {
		return "error " + e.Error()
	}
	return s
}

// shownAll returns the texts of types.
func shownAll(l []api.Type) string {
	var out []string
	for _, t := range l {
		out = append(out, shown(t))
	}
	return strings.Join(out, "; ")
}

// kinds reads types, of which `0` is the zero Type.
func kinds(s string) []api.Type {
	var l []api.Type
	for part := range strings.SplitSeq(s, ";") {
		switch part = strings.TrimSpace(part); part {
		case "":
		case "0":
			l = append(l, api.Type{})
		default:
			l = append(l, notation.Type(part))
		}
	}
	return l
}

// isFault holds a fault and an error against those that are wanted.
func isFault(t *testing.T, what string, f check.Fault, e api.Errno, want check.Fault, code api.Errno) {
	t.Helper()
	if e != code || f.Entity != want.Entity || f.Method != want.Method || !slices.Equal(f.Path, want.Path) {
		t.Errorf("%s: error %d at %v, want %d at %v", what, e, f, code, want)
	}
}

// cell is the program of the chapter's examples.
const cell = `
	primitive val None
	class ref main.Cell
	var c: main.Cell ref
	new ref create(c': main.Cell ref) => (set.c this local.c')
	fun box get(): main.Cell box => (get.c this)
	fun ref both(): main.Cell ref => (get.c this)
	fun ref made(x: main.Cell val): main.Cell iso => (recover{this} (new.create{main.Cell ref} (new.create{main.Cell ref} local.y)))
`

// TestExamples are the examples of the chapter.
func TestExamples(t *testing.T) {
	p := notation.Program(cell)
	p[1].Methods[3].Body = notation.Expr("(recover{this} (new.make{main.Cell ref}))")
	p[1].Methods = append(p[1].Methods, notation.Method("new ref make() => (set.c this this)"))
	b, f, e := check.Method(p, 1, 1)
	isFault(t, "get", f, e, check.Fault{}, api.OK)
	if s := shownAll(b.Types); s != "main.Cell box; main.Cell box" || b.Entity != 1 || b.Method != 1 {
		t.Errorf("get: %v, %s", b, s)
	}
	b, _, _ = check.Method(p, 1, 2)
	if s := shownAll(b.Types); s != "main.Cell ref; main.Cell ref" {
		t.Errorf("both: %s", s)
	}
	b, f, e = check.Method(p, 1, 3)
	isFault(t, "made", f, e, check.Fault{}, api.OK)
	if s := shownAll(b.Types); s != "main.Cell iso^; main.Cell ref" {
		t.Errorf("made: %s", s)
	}
	p[1].Methods[1] = notation.Method("fun box get(x: main.Cell ref): main.Cell box => (set.c this local.x)")
	b, f, e = check.Method(p, 1, 1)
	isFault(t, "a write through box", f, e, check.Fault{Entity: 1, Method: 1}, check.ErrView)
	if len(b.Types) > 0 || b.Entity != 0 {
		t.Errorf("a body with an error: %v", b)
	}
	match := notation.Expr("(match local.x (case.y{main.Cell iso} - local.y))")
	c := check.Context{Entity: 1, Method: 1}
	if _, e := check.Rule(p, c, match, kinds("(main.Cell iso! | None val); main.Cell iso!")); e != check.ErrCases {
		t.Errorf("the match: error %d", e)
	}
}

// TestBuiltin is P13.1 for names of entities.
func TestBuiltin(t *testing.T) {
	for s, want := range map[string]bool{
		"": true, "None": true, "Array[main.C ref]": true, "Array[a.b[c.d]]": true, "main.C": false, "main.C[U8 val]": false, ".": false,
		"a/b.C": false, "a/b": true, "[.": true, ".[": false, "x[": true, "x].": false,
	} {
		if check.Builtin(s) != want {
			t.Errorf("%q: not %v", s, want)
		}
	}
}

// TestCodes is P13.1 for the codes of the layer.
func TestCodes(t *testing.T) {
	got := [...]api.Errno{check.ErrArgs, check.ErrResult, check.ErrView, check.ErrSend, check.ErrEntity, check.ErrPlace, check.ErrCases}
	if got != [...]api.Errno{150, 151, 152, 153, 155, 156, 157} {
		t.Errorf("codes %v", got)
	}
}

// path returns a path.
func path(l ...int) []int { return l }
